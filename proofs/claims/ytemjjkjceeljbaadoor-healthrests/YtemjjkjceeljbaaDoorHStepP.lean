/- What package health's Step and Till answer. -/
import Derived.Test.YtemjjkjceeljbaaDoorHtillLaw
import Derived.Test.YtemjjkjceeljbaaDoorHChk
import Derived.Test.YtemjjkjceeljbaaDoorHCnt
namespace Go.Proofs.YtemjjkjceeljbaaDoor
open Go.ChangeShapes Go.WideShapes Go.ChangeAt Go.RowKit
namespace Bw
theorem stepP_res (tmps : Array Value) (w : World) (g : Nat) (cs : Array Value) (x y : Value) (hp : tmps.getD 4 undef = .pointer (some ⟨g, 0, none⟩)) (hx : tmps.getD 5 undef = x) (hy : tmps.getD 6 undef = y) (h : w.heap[g]? = some (.cells cs 23 (0, 0))) (hs : cs.size = 3) :
    (results Tryd.f6 tmps).run Tryd.prog w = .ok (.tuple #[.agg cs, x, y]) w := by
  have hl := run_loadVar_row (P := Tryd.prog) w g 23 23 cs (0, 0) _ h Tryd.underlying23 rfl (by rw [health_i, hs])
  have hp' : tmps[4]?.getD undef = .pointer (some ⟨g, 0, none⟩) := by simpa using hp
  have hx' : tmps[5]?.getD undef = x := by simpa using hx
  have hy' : tmps[6]?.getD undef = y := by simpa using hy
  simp [results, hp', hx', hy', asAddr, hl]
theorem below1 {w a b : World} {g : Nat} (h : Below w.heap.size w a) (ht : Tch [g] a b) (hg : w.heap.size ≤ g) : Below w.heap.size w b :=
  Tch.below h ht (fun q hq => by rw [List.mem_singleton.1 hq]; exact hg) (Nat.le_refl _)
/-- two new blocks: the counters that came in, and the result's own -/
def hW0 (w : World) (h : Hl) : World := (w.alloc (hC h)).alloc (hC zeroH)
theorem hW0_a (w : World) (h : Hl) : HRow (hW0 w h) w.heap.size h := (HRow.box w h).kept (hbox _ _)
theorem hW0_b (w : World) (h : Hl) : HRow (hW0 w h) (w.heap.size + 1) zeroH := new2 w _ _
theorem hW0_k (w : World) (h : Hl) : Below w.heap.size w (hW0 w h) := below2 w _ _
set_option maxHeartbeats 16000000 in
set_option maxRecDepth 100000 in
theorem stepP_bad (h : Hl) (p : Option Addr) (n c : Nat) (zs : List Int) (w : World) (hz : NumsH w p n zs) (ho : okB h = false) :
    Calls Tryd.prog 6 #[hV h, .slice p n c] w fun e w' => e = .returned (.tuple #[hV zeroH, .int .i64 0, .int .i64 3]) ∧ Below w.heap.size w w' := by
  have _ := hz
  have hC3 : chkH h = 3 := by unfold chkH; rw [if_neg (by rw [ho]; decide)]
  have a1 := fun W => hcheck_any h W
  rw [hC3] at a1
  have HCK := Hid.mk a1
  clear a1 hC3 ho hz
  have HA0 := Hid.mk (hW0_a w h)
  have HZ0 := Hid.mk (hW0_b w h)
  have HB0 := Hid.mk (hW0_k w h)
  obtain ⟨s, g, r⟩ := h
  unfold hW0 hC zeroH at HA0 HZ0 HB0
  unfold hV at HCK ⊢
  simp only at HA0 HZ0 HB0 HCK ⊢
  obtain ⟨m0, m1, m2⟩ := HA0.out.at
  simp only at m0 m1 m2
  go_enter Tryd.func6, Tryd.ntmps6
  go_wp2_with fail
  refine (HCK.out _).mono ?_
  rintro e w1 ⟨rfl, hb1⟩
  have HA1 := Hid.mk (HA0.out.kept hb1)
  have HZ1 := Hid.mk (HZ0.out.kept hb1)
  have HB1 := Hid.mk (bl2 HB0.out hb1)
  clear hb1 HA0 HZ0 HB0 m0 m1 m2
  have hZ := HZ1.out
  unfold HRow at hZ
  simp only at hZ
  have kc0 := cell_of_row w1 (w.heap.size + 1) 0 _ _ _ hZ
  have kz0 := frozen_of_row w1 (w.heap.size + 1) 0 _ _ hZ
  have ks0 := heap_setCell_same w1 (w.heap.size + 1) 0 _ _ (.int .i64 0) hZ
  simp only [List.setIfInBounds_toArray, List.set_cons_zero] at ks0
  simp at kc0
  have kc1 := cell_of_row (w1.setCell ⟨(w.heap.size + 1), 0, none⟩ (.int .i64 0)) (w.heap.size + 1) 1 _ _ _ ks0
  have kz1 := frozen_of_row (w1.setCell ⟨(w.heap.size + 1), 0, none⟩ (.int .i64 0)) (w.heap.size + 1) 1 _ _ ks0
  have ks1 := heap_setCell_same (w1.setCell ⟨(w.heap.size + 1), 0, none⟩ (.int .i64 0)) (w.heap.size + 1) 1 _ _ (.int .i64 0) ks0
  simp only [List.setIfInBounds_toArray, List.set_cons_zero, List.set_cons_succ] at ks1
  simp at kc1
  have kc2 := cell_of_row ((w1.setCell ⟨(w.heap.size + 1), 0, none⟩ (.int .i64 0)).setCell ⟨(w.heap.size + 1), 1, none⟩ (.int .i64 0)) (w.heap.size + 1) 2 _ _ _ ks1
  have kz2 := frozen_of_row ((w1.setCell ⟨(w.heap.size + 1), 0, none⟩ (.int .i64 0)).setCell ⟨(w.heap.size + 1), 1, none⟩ (.int .i64 0)) (w.heap.size + 1) 2 _ _ ks1
  have ks2 := heap_setCell_same ((w1.setCell ⟨(w.heap.size + 1), 0, none⟩ (.int .i64 0)).setCell ⟨(w.heap.size + 1), 1, none⟩ (.int .i64 0)) (w.heap.size + 1) 2 _ _ (.int .i64 0) ks1
  simp only [List.setIfInBounds_toArray, List.set_cons_zero, List.set_cons_succ] at ks2
  simp at kc2
  have hT : Tch [w.heap.size + 1] w1 (((w1.setCell ⟨(w.heap.size + 1), 0, none⟩ (.int .i64 0)).setCell ⟨(w.heap.size + 1), 1, none⟩ (.int .i64 0)).setCell ⟨(w.heap.size + 1), 2, none⟩ (.int .i64 0)) := ((((Tch.refl [w.heap.size + 1] w1).setK (by simp) _ _).setK (by simp) _ _).setK (by simp) _ _)
  have HFIN := Hid.mk ks2
  have HBn := Hid.mk (below1 HB1.out hT (Nat.le_succ _))
  clear hT
  go_wp2_with fail
  refine bodyPost_ret (stepP_res _ _ (w.heap.size + 1) _ _ _ rfl rfl rfl HFIN.out rfl) rfl ?_
  exact ⟨rfl, HBn.out⟩
set_option maxHeartbeats 16000000 in
set_option maxRecDepth 100000 in
theorem stepP_many (h : Hl) (p : Option Addr) (n c : Nat) (zs : List Int) (w : World) (hz : NumsH w p n zs) (ho : okB h = true) (hn : 1000 < n) :
    Calls Tryd.prog 6 #[hV h, .slice p n c] w fun e w' => e = .returned (.tuple #[hV zeroH, .int .i64 0, .int .i64 2]) ∧ Below w.heap.size w w' := by
  have hC0 : chkH h = 0 := by unfold chkH; rw [if_pos ho]
  have a1 := fun W => hcheck_any h W
  rw [hC0] at a1
  have HCK := Hid.mk a1
  clear a1 hC0
  have _ := hz
  have hn2 : (1000 : Int) < (n : Int) := by omega
  clear ho hz
  have HA0 := Hid.mk (hW0_a w h)
  have HZ0 := Hid.mk (hW0_b w h)
  have HB0 := Hid.mk (hW0_k w h)
  obtain ⟨s, g, r⟩ := h
  unfold hW0 hC zeroH at HA0 HZ0 HB0
  unfold hV at HCK ⊢
  simp only at HA0 HZ0 HB0 HCK ⊢
  obtain ⟨m0, m1, m2⟩ := HA0.out.at
  simp only at m0 m1 m2
  go_enter Tryd.func6, Tryd.ntmps6
  go_wp2_with fail
  refine (HCK.out _).mono ?_
  rintro e w1 ⟨rfl, hb1⟩
  have HA1 := Hid.mk (HA0.out.kept hb1)
  have HZ1 := Hid.mk (HZ0.out.kept hb1)
  have HB1 := Hid.mk (bl2 HB0.out hb1)
  clear hb1 HA0 HZ0 HB0 m0 m1 m2
  have hZ := HZ1.out
  unfold HRow at hZ
  simp only at hZ
  have kc0 := cell_of_row w1 (w.heap.size + 1) 0 _ _ _ hZ
  have kz0 := frozen_of_row w1 (w.heap.size + 1) 0 _ _ hZ
  have ks0 := heap_setCell_same w1 (w.heap.size + 1) 0 _ _ (.int .i64 0) hZ
  simp only [List.setIfInBounds_toArray, List.set_cons_zero] at ks0
  simp at kc0
  have kc1 := cell_of_row (w1.setCell ⟨(w.heap.size + 1), 0, none⟩ (.int .i64 0)) (w.heap.size + 1) 1 _ _ _ ks0
  have kz1 := frozen_of_row (w1.setCell ⟨(w.heap.size + 1), 0, none⟩ (.int .i64 0)) (w.heap.size + 1) 1 _ _ ks0
  have ks1 := heap_setCell_same (w1.setCell ⟨(w.heap.size + 1), 0, none⟩ (.int .i64 0)) (w.heap.size + 1) 1 _ _ (.int .i64 0) ks0
  simp only [List.setIfInBounds_toArray, List.set_cons_zero, List.set_cons_succ] at ks1
  simp at kc1
  have kc2 := cell_of_row ((w1.setCell ⟨(w.heap.size + 1), 0, none⟩ (.int .i64 0)).setCell ⟨(w.heap.size + 1), 1, none⟩ (.int .i64 0)) (w.heap.size + 1) 2 _ _ _ ks1
  have kz2 := frozen_of_row ((w1.setCell ⟨(w.heap.size + 1), 0, none⟩ (.int .i64 0)).setCell ⟨(w.heap.size + 1), 1, none⟩ (.int .i64 0)) (w.heap.size + 1) 2 _ _ ks1
  have ks2 := heap_setCell_same ((w1.setCell ⟨(w.heap.size + 1), 0, none⟩ (.int .i64 0)).setCell ⟨(w.heap.size + 1), 1, none⟩ (.int .i64 0)) (w.heap.size + 1) 2 _ _ (.int .i64 0) ks1
  simp only [List.setIfInBounds_toArray, List.set_cons_zero, List.set_cons_succ] at ks2
  simp at kc2
  have hT : Tch [w.heap.size + 1] w1 (((w1.setCell ⟨(w.heap.size + 1), 0, none⟩ (.int .i64 0)).setCell ⟨(w.heap.size + 1), 1, none⟩ (.int .i64 0)).setCell ⟨(w.heap.size + 1), 2, none⟩ (.int .i64 0)) := ((((Tch.refl [w.heap.size + 1] w1).setK (by simp) _ _).setK (by simp) _ _).setK (by simp) _ _)
  have HFIN := Hid.mk ks2
  have HBn := Hid.mk (below1 HB1.out hT (Nat.le_succ _))
  clear hT
  go_wp2_with fail
  refine bodyPost_ret (stepP_res _ _ (w.heap.size + 1) _ _ _ rfl rfl rfl HFIN.out rfl) rfl ?_
  exact ⟨rfl, HBn.out⟩
set_option maxHeartbeats 16000000 in
set_option maxRecDepth 100000 in
theorem stepP_who (h : Hl) (p : Option Addr) (n c : Nat) (zs : List Int) (w : World) (hz : NumsH w p n zs) (ho : okB h = true) (hn : n ≤ 1000) (hb : badK zs < n) :
    Calls Tryd.prog 6 #[hV h, .slice p n c] w fun e w' => e = .returned (.tuple #[hV zeroH, .int .i64 (badK zs : Int), .int .i64 8]) ∧ Below w.heap.size w w' := by
  have HOK := Hid.mk (fun k => runK_ok h zs ((okB_iff h).1 ho) k)
  obtain ⟨RK, hRK⟩ : ∃ RK : Nat → Hl, RK = runK h zs := ⟨_, rfl⟩
  have HRK0 := Hid.mk (show RK 0 = h by rw [hRK]; rfl)
  have HRKs := Hid.mk (show ∀ k, RK (k + 1) = stepH (RK k) (zs.getD k 0) by intro k; rw [hRK]; rfl)
  rw [← hRK] at HOK
  have hC0 : chkH h = 0 := by unfold chkH; rw [if_pos ho]
  have a1 := fun W => hcheck_any h W
  rw [hC0] at a1
  have HCK := Hid.mk a1
  clear a1 hC0
  have hn2 : (n : Int) ≤ 1000 := by omega
  have HNw := Hid.mk hz
  have HBK := Hid.mk hb
  obtain ⟨BK, hBK⟩ : ∃ BK : Nat, BK = badK zs := ⟨_, rfl⟩
  rw [← hBK] at HBK ⊢
  have HBA := Hid.mk (show ∀ k, k < BK → isW (zs.getD k 0) = true by rw [hBK]; exact badK_before zs)
  have HBE := Hid.mk (show isW (zs.getD BK 0) = false by rw [hBK]; exact badK_at zs (by rw [hz.1]; exact hb))
  clear hBK
  have HA0 := Hid.mk (hW0_a w h)
  have HZ0 := Hid.mk (hW0_b w h)
  have HB0 := Hid.mk (hW0_k w h)
  clear ho hz hb hRK hn
  obtain ⟨s, g, r⟩ := h
  unfold hW0 hC zeroH at HA0 HZ0 HB0
  unfold hV at HCK ⊢
  simp only at HA0 HZ0 HB0 HCK ⊢
  obtain ⟨m0, m1, m2⟩ := HA0.out.at
  simp only at m0 m1 m2
  go_enter Tryd.func6, Tryd.ntmps6
  go_wp2_with fail
  refine (HCK.out _).mono ?_
  rintro e w1 ⟨rfl, hb1⟩
  have HA1 := Hid.mk (HA0.out.kept hb1)
  have HZ1 := Hid.mk (HZ0.out.kept hb1)
  have HB1 := Hid.mk (bl2 HB0.out hb1)
  clear hb1 HA0 HZ0 HB0 m0 m1 m2
  have HZ2 := HZ1
  go_wp2_with fail
  go_loopw [22] (fun i wr => ∃ k : Nat, k ≤ BK ∧ i = .int .i64 k ∧ Hid (HRow wr w.heap.size (RK k)) ∧ Hid (HRow wr (w.heap.size + 1) ⟨0, 0, 0⟩) ∧ Hid (Below w.heap.size w wr)) (fun i _ => n - (intOf i).toNat)
  case atStart => exact ⟨0, Nat.zero_le _, rfl, by rw [HRK0.out]; exact HA1, HZ1, HB1⟩
  case round =>
    clear HA1 HZ1 HZ2 HB1
    obtain ⟨k, hk, rfl, HR, HZ, HB⟩ := hrel
    by_cases hkb0 : k < BK
    · have hlt : k < n := by have h3 := HBK.out; omega
      have hlt' : (k : Int) < (n : Int) := by omega
      cases p with
      | none => exact absurd (HNw.out.2.1 rfl) (by omega)
      | some x =>
        have cz := cell_kept HB.out (HNw.out.2.2.1 x rfl k hlt)
        have hW : isW (zs.getD k 0) = true := HBA.out k hkb0
        have HST := Hid.mk (HRKs.out k)
        have HOKk := Hid.mk (HOK.out k)
        have HIK := Hid.mk (fun W => isKind_any (zs.getD k 0) W)
        rw [hW] at HIK
        have HIO := Hid.mk (fun W => isOff_any (RK k) W)
        have HCN := Hid.mk (fun (h0 : (RK k).s ≠ 256) W (hb : Below w.heap.size w W) => counted_any (RK k) (zs.getD k 0) W (HNw.out.2.2.2.kept hb) (HOK.out k) h0 hW)
        have HRE := Hid.mk (fun (h0 : (RK k).s = 256) W => rested_any (RK k) W (HOK.out k) h0)
        rw [← HST.out] at HCN
        generalize zs.getD k 0 = z at *
        obtain ⟨h1, hh1⟩ : ∃ h1, h1 = RK k := ⟨_, rfl⟩
        obtain ⟨h2, hh2⟩ : ∃ h2, h2 = RK (k + 1) := ⟨_, rfl⟩
        rw [← hh1, ← hh2] at HCN HST
        rw [← hh1] at HR HIO HRE HOKk
        have HH2 := Hid.mk hh2
        clear hh1 hh2 hW
        obtain ⟨s1, g1, r1⟩ := h1
        obtain ⟨m0, m1, m2⟩ := HR.out.at
        simp only at m0 m1 m2
        unfold hV at HIO HCN HRE
        simp only at HIO HCN HRE
        by_cases h0 : s1 = 256
        · have b0 : (s1 == 256) = true := by simpa using h0
          rw [b0] at HIO
          by_cases h6 : z = 6
          · have HR6 := Hid.mk (HRE.out h0)
            subst h6
            rw [← HST.out] at HR6
            obtain ⟨s2, g2, r2⟩ := h2
            simp only at HR6
            clear HCN HRE HST b0 h0
            go_wp2_with fail
            refine (HIK.out _).mono ?_
            rintro e w2 ⟨rfl, hw2⟩
            subst hw2
            go_wp2_with fail
            refine (HIO.out _).mono ?_
            rintro e w3 ⟨rfl, hb3⟩
            have HR3 := Hid.mk (HR.out.kept hb3)
            have HZ3 := Hid.mk (HZ.out.kept hb3)
            have HB3 := Hid.mk (bl2 HB.out hb3)
            obtain ⟨y0, y1, y2⟩ := HR3.out.at
            simp only at y0 y1 y2
            clear hb3 m0 m1 m2
            go_wp2_with fail
            refine (HR6.out _).mono ?_
            rintro e w4 ⟨rfl, hb4⟩
            have HZ4 := Hid.mk (HZ3.out.kept hb4)
            have HB4 := Hid.mk (bl2 HB3.out hb4)
            have HR4 := Hid.mk (HR3.out.kept hb4)
            clear hb4 y0 y1 y2
            have hA9 := HR4.out
            unfold HRow at hA9
            simp only at hA9
            have kc0 := cell_of_row w4 w.heap.size 0 _ _ _ hA9
            have kz0 := frozen_of_row w4 w.heap.size 0 _ _ hA9
            have ks0 := heap_setCell_same w4 w.heap.size 0 _ _ (.int .i64 s2) hA9
            simp only [List.setIfInBounds_toArray, List.set_cons_zero] at ks0
            simp at kc0
            have kc1 := cell_of_row (w4.setCell ⟨w.heap.size, 0, none⟩ (.int .i64 s2)) w.heap.size 1 _ _ _ ks0
            have kz1 := frozen_of_row (w4.setCell ⟨w.heap.size, 0, none⟩ (.int .i64 s2)) w.heap.size 1 _ _ ks0
            have ks1 := heap_setCell_same (w4.setCell ⟨w.heap.size, 0, none⟩ (.int .i64 s2)) w.heap.size 1 _ _ (.int .i64 g2) ks0
            simp only [List.setIfInBounds_toArray, List.set_cons_zero, List.set_cons_succ] at ks1
            simp at kc1
            have kc2 := cell_of_row ((w4.setCell ⟨w.heap.size, 0, none⟩ (.int .i64 s2)).setCell ⟨w.heap.size, 1, none⟩ (.int .i64 g2)) w.heap.size 2 _ _ _ ks1
            have kz2 := frozen_of_row ((w4.setCell ⟨w.heap.size, 0, none⟩ (.int .i64 s2)).setCell ⟨w.heap.size, 1, none⟩ (.int .i64 g2)) w.heap.size 2 _ _ ks1
            have ks2 := heap_setCell_same ((w4.setCell ⟨w.heap.size, 0, none⟩ (.int .i64 s2)).setCell ⟨w.heap.size, 1, none⟩ (.int .i64 g2)) w.heap.size 2 _ _ (.int .i64 r2) ks1
            simp only [List.setIfInBounds_toArray, List.set_cons_zero, List.set_cons_succ] at ks2
            simp at kc2
            have hT : Tch [w.heap.size] w4 (((w4.setCell ⟨w.heap.size, 0, none⟩ (.int .i64 s2)).setCell ⟨w.heap.size, 1, none⟩ (.int .i64 g2)).setCell ⟨w.heap.size, 2, none⟩ (.int .i64 r2)) := ((((Tch.refl [w.heap.size] w4).setK (by simp) _ _).setK (by simp) _ _).setK (by simp) _ _)
            have HRn := Hid.mk (show HRow (((w4.setCell ⟨w.heap.size, 0, none⟩ (.int .i64 s2)).setCell ⟨w.heap.size, 1, none⟩ (.int .i64 g2)).setCell ⟨w.heap.size, 2, none⟩ (.int .i64 r2)) w.heap.size ⟨s2, g2, r2⟩ from ks2)
            have HZn := Hid.mk (HZ4.out.other hT (by omega))
            have HBn := Hid.mk (Tch.below HB4.out hT (by simp) (Nat.le_refl _))
            rw [HH2.out] at HRn
            clear hT
            go_wp2_with fail
            go_roundw
            case rel => exact ⟨k + 1, by omega, by go_num, HRn, HZn, HBn⟩
            case measure => simp [intOf]; omega
          · have b6 : (z == 6) = false := by simpa using h6
            have hsame : h2 = ⟨s1, g1, r1⟩ := by
              rw [HST.out]; unfold stepH; simp only; rw [if_pos h0, if_neg h6]
            subst hsame
            clear HCN HRE HST b0 h0 h6
            go_wp2_with fail
            refine (HIK.out _).mono ?_
            rintro e w2 ⟨rfl, hw2⟩
            subst hw2
            go_wp2_with fail
            refine (HIO.out _).mono ?_
            rintro e w3 ⟨rfl, hb3⟩
            have HR3 := Hid.mk (HR.out.kept hb3)
            have HZ3 := Hid.mk (HZ.out.kept hb3)
            have HB3 := Hid.mk (bl2 HB.out hb3)
            rw [HH2.out] at HR3
            clear hb3 m0 m1 m2
            go_wp2_with fail
            go_roundw
            case rel => exact ⟨k + 1, by omega, by go_num, HR3, HZ3, HB3⟩
            case measure => simp [intOf]; omega
        · have b0 : (s1 == 256) = false := by simpa using h0
          rw [b0] at HIO
          have HC6 := Hid.mk (HCN.out h0)
          obtain ⟨s2, g2, r2⟩ := h2
          simp only at HC6
          clear HCN HRE HST b0 h0
          go_wp2_with fail
          refine (HIK.out _).mono ?_
          rintro e w2 ⟨rfl, hw2⟩
          subst hw2
          go_wp2_with fail
          refine (HIO.out _).mono ?_
          rintro e w3 ⟨rfl, hb3⟩
          have HR3 := Hid.mk (HR.out.kept hb3)
          have HZ3 := Hid.mk (HZ.out.kept hb3)
          have HB3 := Hid.mk (bl2 HB.out hb3)
          obtain ⟨y0, y1, y2⟩ := HR3.out.at
          simp only at y0 y1 y2
          clear hb3 m0 m1 m2
          go_wp2_with fail
          refine (HC6.out _ HB3.out).mono ?_
          rintro e w4 ⟨rfl, hb4⟩
          have HZ4 := Hid.mk (HZ3.out.kept hb4)
          have HB4 := Hid.mk (bl2 HB3.out hb4)
          have HR4 := Hid.mk (HR3.out.kept hb4)
          clear hb4 y0 y1 y2
          have hA9 := HR4.out
          unfold HRow at hA9
          simp only at hA9
          have kc0 := cell_of_row w4 w.heap.size 0 _ _ _ hA9
          have kz0 := frozen_of_row w4 w.heap.size 0 _ _ hA9
          have ks0 := heap_setCell_same w4 w.heap.size 0 _ _ (.int .i64 s2) hA9
          simp only [List.setIfInBounds_toArray, List.set_cons_zero] at ks0
          simp at kc0
          have kc1 := cell_of_row (w4.setCell ⟨w.heap.size, 0, none⟩ (.int .i64 s2)) w.heap.size 1 _ _ _ ks0
          have kz1 := frozen_of_row (w4.setCell ⟨w.heap.size, 0, none⟩ (.int .i64 s2)) w.heap.size 1 _ _ ks0
          have ks1 := heap_setCell_same (w4.setCell ⟨w.heap.size, 0, none⟩ (.int .i64 s2)) w.heap.size 1 _ _ (.int .i64 g2) ks0
          simp only [List.setIfInBounds_toArray, List.set_cons_zero, List.set_cons_succ] at ks1
          simp at kc1
          have kc2 := cell_of_row ((w4.setCell ⟨w.heap.size, 0, none⟩ (.int .i64 s2)).setCell ⟨w.heap.size, 1, none⟩ (.int .i64 g2)) w.heap.size 2 _ _ _ ks1
          have kz2 := frozen_of_row ((w4.setCell ⟨w.heap.size, 0, none⟩ (.int .i64 s2)).setCell ⟨w.heap.size, 1, none⟩ (.int .i64 g2)) w.heap.size 2 _ _ ks1
          have ks2 := heap_setCell_same ((w4.setCell ⟨w.heap.size, 0, none⟩ (.int .i64 s2)).setCell ⟨w.heap.size, 1, none⟩ (.int .i64 g2)) w.heap.size 2 _ _ (.int .i64 r2) ks1
          simp only [List.setIfInBounds_toArray, List.set_cons_zero, List.set_cons_succ] at ks2
          simp at kc2
          have hT : Tch [w.heap.size] w4 (((w4.setCell ⟨w.heap.size, 0, none⟩ (.int .i64 s2)).setCell ⟨w.heap.size, 1, none⟩ (.int .i64 g2)).setCell ⟨w.heap.size, 2, none⟩ (.int .i64 r2)) := ((((Tch.refl [w.heap.size] w4).setK (by simp) _ _).setK (by simp) _ _).setK (by simp) _ _)
          have HRn := Hid.mk (show HRow (((w4.setCell ⟨w.heap.size, 0, none⟩ (.int .i64 s2)).setCell ⟨w.heap.size, 1, none⟩ (.int .i64 g2)).setCell ⟨w.heap.size, 2, none⟩ (.int .i64 r2)) w.heap.size ⟨s2, g2, r2⟩ from ks2)
          have HZn := Hid.mk (HZ4.out.other hT (by omega))
          have HBn := Hid.mk (Tch.below HB4.out hT (by simp) (Nat.le_refl _))
          rw [HH2.out] at HRn
          clear hT
          go_wp2_with fail
          go_roundw
          case rel => exact ⟨k + 1, by omega, by go_num, HRn, HZn, HBn⟩
          case measure => simp [intOf]; omega
    · have hkb : k = BK := by omega
      have hlt : k < n := by have h3 := HBK.out; omega
      have hlt' : (k : Int) < (n : Int) := by omega
      cases p with
      | none => exact absurd (HNw.out.2.1 rfl) (by omega)
      | some x =>
        have cz := cell_kept HB.out (HNw.out.2.2.1 x rfl k hlt)
        have hW : isW (zs.getD k 0) = false := by rw [hkb]; exact HBE.out
        have HIK := Hid.mk (fun W => isKind_any (zs.getD k 0) W)
        rw [hW] at HIK
        generalize zs.getD k 0 = z at *
        clear hW
        subst hkb
        go_wp2_with fail
        refine (HIK.out _).mono ?_
        rintro e w2 ⟨rfl, hw2⟩
        subst hw2
        have hZ := HZ.out
        unfold HRow at hZ
        simp only at hZ
        have kc0 := cell_of_row w2 (w.heap.size + 1) 0 _ _ _ hZ
        have kz0 := frozen_of_row w2 (w.heap.size + 1) 0 _ _ hZ
        have ks0 := heap_setCell_same w2 (w.heap.size + 1) 0 _ _ (.int .i64 0) hZ
        simp only [List.setIfInBounds_toArray, List.set_cons_zero] at ks0
        simp at kc0
        have kc1 := cell_of_row (w2.setCell ⟨(w.heap.size + 1), 0, none⟩ (.int .i64 0)) (w.heap.size + 1) 1 _ _ _ ks0
        have kz1 := frozen_of_row (w2.setCell ⟨(w.heap.size + 1), 0, none⟩ (.int .i64 0)) (w.heap.size + 1) 1 _ _ ks0
        have ks1 := heap_setCell_same (w2.setCell ⟨(w.heap.size + 1), 0, none⟩ (.int .i64 0)) (w.heap.size + 1) 1 _ _ (.int .i64 0) ks0
        simp only [List.setIfInBounds_toArray, List.set_cons_zero, List.set_cons_succ] at ks1
        simp at kc1
        have kc2 := cell_of_row ((w2.setCell ⟨(w.heap.size + 1), 0, none⟩ (.int .i64 0)).setCell ⟨(w.heap.size + 1), 1, none⟩ (.int .i64 0)) (w.heap.size + 1) 2 _ _ _ ks1
        have kz2 := frozen_of_row ((w2.setCell ⟨(w.heap.size + 1), 0, none⟩ (.int .i64 0)).setCell ⟨(w.heap.size + 1), 1, none⟩ (.int .i64 0)) (w.heap.size + 1) 2 _ _ ks1
        have ks2 := heap_setCell_same ((w2.setCell ⟨(w.heap.size + 1), 0, none⟩ (.int .i64 0)).setCell ⟨(w.heap.size + 1), 1, none⟩ (.int .i64 0)) (w.heap.size + 1) 2 _ _ (.int .i64 0) ks1
        simp only [List.setIfInBounds_toArray, List.set_cons_zero, List.set_cons_succ] at ks2
        simp at kc2
        have hT : Tch [w.heap.size + 1] w2 (((w2.setCell ⟨(w.heap.size + 1), 0, none⟩ (.int .i64 0)).setCell ⟨(w.heap.size + 1), 1, none⟩ (.int .i64 0)).setCell ⟨(w.heap.size + 1), 2, none⟩ (.int .i64 0)) := ((((Tch.refl [w.heap.size + 1] w2).setK (by simp) _ _).setK (by simp) _ _).setK (by simp) _ _)
        have HFIN := Hid.mk ks2
        have HBn := Hid.mk (below1 HB.out hT (Nat.le_succ _))
        clear hT
        go_wp2_with fail
        refine bodyPost_ret (stepP_res _ _ (w.heap.size + 1) _ _ _ rfl rfl rfl HFIN.out rfl) rfl ?_
        exact ⟨rfl, HBn.out⟩
set_option maxHeartbeats 16000000 in
set_option maxRecDepth 100000 in
theorem stepP_ok (h : Hl) (p : Option Addr) (n c : Nat) (zs : List Int) (w : World) (hz : NumsH w p n zs) (ho : okB h = true) (hn : n ≤ 1000) (hb : ¬ badK zs < n) :
    Calls Tryd.prog 6 #[hV h, .slice p n c] w fun e w' => e = .returned (.tuple #[hV (runK h zs n), .int .i64 0, .int .i64 0]) ∧ Below w.heap.size w w' := by
  have HOK := Hid.mk (fun k => runK_ok h zs ((okB_iff h).1 ho) k)
  obtain ⟨RK, hRK⟩ : ∃ RK : Nat → Hl, RK = runK h zs := ⟨_, rfl⟩
  have HRK0 := Hid.mk (show RK 0 = h by rw [hRK]; rfl)
  have HRKs := Hid.mk (show ∀ k, RK (k + 1) = stepH (RK k) (zs.getD k 0) by intro k; rw [hRK]; rfl)
  rw [← hRK] at HOK ⊢
  have hC0 : chkH h = 0 := by unfold chkH; rw [if_pos ho]
  have a1 := fun W => hcheck_any h W
  rw [hC0] at a1
  have HCK := Hid.mk a1
  clear a1 hC0
  have hn2 : (n : Int) ≤ 1000 := by omega
  have HNw := Hid.mk hz
  have HBK := Hid.mk hb
  have HBA := Hid.mk (show ∀ k, k < n → isW (zs.getD k 0) = true from fun k hk => badK_before zs k (by have := badK_le zs; omega))
  obtain ⟨X, hX⟩ : ∃ X, X = RK n := ⟨_, rfl⟩
  rw [← hX]
  have HXe := Hid.mk hX
  clear hX
  have HA0 := Hid.mk (hW0_a w h)
  have HZ0 := Hid.mk (hW0_b w h)
  have HB0 := Hid.mk (hW0_k w h)
  clear ho hz hb hRK hn
  obtain ⟨s, g, r⟩ := h
  unfold hW0 hC zeroH at HA0 HZ0 HB0
  unfold hV at HCK ⊢
  simp only at HA0 HZ0 HB0 HCK ⊢
  obtain ⟨m0, m1, m2⟩ := HA0.out.at
  simp only at m0 m1 m2
  obtain ⟨xs, xg, xr⟩ := X
  go_enter Tryd.func6, Tryd.ntmps6
  go_wp2_with fail
  refine (HCK.out _).mono ?_
  rintro e w1 ⟨rfl, hb1⟩
  have HA1 := Hid.mk (HA0.out.kept hb1)
  have HZ1 := Hid.mk (HZ0.out.kept hb1)
  have HB1 := Hid.mk (bl2 HB0.out hb1)
  clear hb1 HA0 HZ0 HB0 m0 m1 m2
  have HZ2 := HZ1
  go_wp2_with fail
  go_loopw [22] (fun i wr => ∃ k : Nat, k ≤ n ∧ i = .int .i64 k ∧ Hid (HRow wr w.heap.size (RK k)) ∧ Hid (HRow wr (w.heap.size + 1) ⟨0, 0, 0⟩) ∧ Hid (Below w.heap.size w wr)) (fun i _ => n - (intOf i).toNat)
  case atStart => exact ⟨0, Nat.zero_le _, rfl, by rw [HRK0.out]; exact HA1, HZ1, HB1⟩
  case round =>
    clear HA1 HZ1 HZ2 HB1
    obtain ⟨k, hk, rfl, HR, HZ, HB⟩ := hrel
    by_cases hkb0 : k < n
    · have hlt : k < n := by omega
      have hlt' : (k : Int) < (n : Int) := by omega
      cases p with
      | none => exact absurd (HNw.out.2.1 rfl) (by omega)
      | some x =>
        have cz := cell_kept HB.out (HNw.out.2.2.1 x rfl k hlt)
        have hW : isW (zs.getD k 0) = true := HBA.out k hkb0
        have HST := Hid.mk (HRKs.out k)
        have HOKk := Hid.mk (HOK.out k)
        have HIK := Hid.mk (fun W => isKind_any (zs.getD k 0) W)
        rw [hW] at HIK
        have HIO := Hid.mk (fun W => isOff_any (RK k) W)
        have HCN := Hid.mk (fun (h0 : (RK k).s ≠ 256) W (hb : Below w.heap.size w W) => counted_any (RK k) (zs.getD k 0) W (HNw.out.2.2.2.kept hb) (HOK.out k) h0 hW)
        have HRE := Hid.mk (fun (h0 : (RK k).s = 256) W => rested_any (RK k) W (HOK.out k) h0)
        rw [← HST.out] at HCN
        generalize zs.getD k 0 = z at *
        obtain ⟨h1, hh1⟩ : ∃ h1, h1 = RK k := ⟨_, rfl⟩
        obtain ⟨h2, hh2⟩ : ∃ h2, h2 = RK (k + 1) := ⟨_, rfl⟩
        rw [← hh1, ← hh2] at HCN HST
        rw [← hh1] at HR HIO HRE HOKk
        have HH2 := Hid.mk hh2
        clear hh1 hh2 hW
        obtain ⟨s1, g1, r1⟩ := h1
        obtain ⟨m0, m1, m2⟩ := HR.out.at
        simp only at m0 m1 m2
        unfold hV at HIO HCN HRE
        simp only at HIO HCN HRE
        by_cases h0 : s1 = 256
        · have b0 : (s1 == 256) = true := by simpa using h0
          rw [b0] at HIO
          by_cases h6 : z = 6
          · have HR6 := Hid.mk (HRE.out h0)
            subst h6
            rw [← HST.out] at HR6
            obtain ⟨s2, g2, r2⟩ := h2
            simp only at HR6
            clear HCN HRE HST b0 h0
            go_wp2_with fail
            refine (HIK.out _).mono ?_
            rintro e w2 ⟨rfl, hw2⟩
            subst hw2
            go_wp2_with fail
            refine (HIO.out _).mono ?_
            rintro e w3 ⟨rfl, hb3⟩
            have HR3 := Hid.mk (HR.out.kept hb3)
            have HZ3 := Hid.mk (HZ.out.kept hb3)
            have HB3 := Hid.mk (bl2 HB.out hb3)
            obtain ⟨y0, y1, y2⟩ := HR3.out.at
            simp only at y0 y1 y2
            clear hb3 m0 m1 m2
            go_wp2_with fail
            refine (HR6.out _).mono ?_
            rintro e w4 ⟨rfl, hb4⟩
            have HZ4 := Hid.mk (HZ3.out.kept hb4)
            have HB4 := Hid.mk (bl2 HB3.out hb4)
            have HR4 := Hid.mk (HR3.out.kept hb4)
            clear hb4 y0 y1 y2
            have hA9 := HR4.out
            unfold HRow at hA9
            simp only at hA9
            have kc0 := cell_of_row w4 w.heap.size 0 _ _ _ hA9
            have kz0 := frozen_of_row w4 w.heap.size 0 _ _ hA9
            have ks0 := heap_setCell_same w4 w.heap.size 0 _ _ (.int .i64 s2) hA9
            simp only [List.setIfInBounds_toArray, List.set_cons_zero] at ks0
            simp at kc0
            have kc1 := cell_of_row (w4.setCell ⟨w.heap.size, 0, none⟩ (.int .i64 s2)) w.heap.size 1 _ _ _ ks0
            have kz1 := frozen_of_row (w4.setCell ⟨w.heap.size, 0, none⟩ (.int .i64 s2)) w.heap.size 1 _ _ ks0
            have ks1 := heap_setCell_same (w4.setCell ⟨w.heap.size, 0, none⟩ (.int .i64 s2)) w.heap.size 1 _ _ (.int .i64 g2) ks0
            simp only [List.setIfInBounds_toArray, List.set_cons_zero, List.set_cons_succ] at ks1
            simp at kc1
            have kc2 := cell_of_row ((w4.setCell ⟨w.heap.size, 0, none⟩ (.int .i64 s2)).setCell ⟨w.heap.size, 1, none⟩ (.int .i64 g2)) w.heap.size 2 _ _ _ ks1
            have kz2 := frozen_of_row ((w4.setCell ⟨w.heap.size, 0, none⟩ (.int .i64 s2)).setCell ⟨w.heap.size, 1, none⟩ (.int .i64 g2)) w.heap.size 2 _ _ ks1
            have ks2 := heap_setCell_same ((w4.setCell ⟨w.heap.size, 0, none⟩ (.int .i64 s2)).setCell ⟨w.heap.size, 1, none⟩ (.int .i64 g2)) w.heap.size 2 _ _ (.int .i64 r2) ks1
            simp only [List.setIfInBounds_toArray, List.set_cons_zero, List.set_cons_succ] at ks2
            simp at kc2
            have hT : Tch [w.heap.size] w4 (((w4.setCell ⟨w.heap.size, 0, none⟩ (.int .i64 s2)).setCell ⟨w.heap.size, 1, none⟩ (.int .i64 g2)).setCell ⟨w.heap.size, 2, none⟩ (.int .i64 r2)) := ((((Tch.refl [w.heap.size] w4).setK (by simp) _ _).setK (by simp) _ _).setK (by simp) _ _)
            have HRn := Hid.mk (show HRow (((w4.setCell ⟨w.heap.size, 0, none⟩ (.int .i64 s2)).setCell ⟨w.heap.size, 1, none⟩ (.int .i64 g2)).setCell ⟨w.heap.size, 2, none⟩ (.int .i64 r2)) w.heap.size ⟨s2, g2, r2⟩ from ks2)
            have HZn := Hid.mk (HZ4.out.other hT (by omega))
            have HBn := Hid.mk (Tch.below HB4.out hT (by simp) (Nat.le_refl _))
            rw [HH2.out] at HRn
            clear hT
            go_wp2_with fail
            go_roundw
            case rel => exact ⟨k + 1, by omega, by go_num, HRn, HZn, HBn⟩
            case measure => simp [intOf]; omega
          · have b6 : (z == 6) = false := by simpa using h6
            have hsame : h2 = ⟨s1, g1, r1⟩ := by
              rw [HST.out]; unfold stepH; simp only; rw [if_pos h0, if_neg h6]
            subst hsame
            clear HCN HRE HST b0 h0 h6
            go_wp2_with fail
            refine (HIK.out _).mono ?_
            rintro e w2 ⟨rfl, hw2⟩
            subst hw2
            go_wp2_with fail
            refine (HIO.out _).mono ?_
            rintro e w3 ⟨rfl, hb3⟩
            have HR3 := Hid.mk (HR.out.kept hb3)
            have HZ3 := Hid.mk (HZ.out.kept hb3)
            have HB3 := Hid.mk (bl2 HB.out hb3)
            rw [HH2.out] at HR3
            clear hb3 m0 m1 m2
            go_wp2_with fail
            go_roundw
            case rel => exact ⟨k + 1, by omega, by go_num, HR3, HZ3, HB3⟩
            case measure => simp [intOf]; omega
        · have b0 : (s1 == 256) = false := by simpa using h0
          rw [b0] at HIO
          have HC6 := Hid.mk (HCN.out h0)
          obtain ⟨s2, g2, r2⟩ := h2
          simp only at HC6
          clear HCN HRE HST b0 h0
          go_wp2_with fail
          refine (HIK.out _).mono ?_
          rintro e w2 ⟨rfl, hw2⟩
          subst hw2
          go_wp2_with fail
          refine (HIO.out _).mono ?_
          rintro e w3 ⟨rfl, hb3⟩
          have HR3 := Hid.mk (HR.out.kept hb3)
          have HZ3 := Hid.mk (HZ.out.kept hb3)
          have HB3 := Hid.mk (bl2 HB.out hb3)
          obtain ⟨y0, y1, y2⟩ := HR3.out.at
          simp only at y0 y1 y2
          clear hb3 m0 m1 m2
          go_wp2_with fail
          refine (HC6.out _ HB3.out).mono ?_
          rintro e w4 ⟨rfl, hb4⟩
          have HZ4 := Hid.mk (HZ3.out.kept hb4)
          have HB4 := Hid.mk (bl2 HB3.out hb4)
          have HR4 := Hid.mk (HR3.out.kept hb4)
          clear hb4 y0 y1 y2
          have hA9 := HR4.out
          unfold HRow at hA9
          simp only at hA9
          have kc0 := cell_of_row w4 w.heap.size 0 _ _ _ hA9
          have kz0 := frozen_of_row w4 w.heap.size 0 _ _ hA9
          have ks0 := heap_setCell_same w4 w.heap.size 0 _ _ (.int .i64 s2) hA9
          simp only [List.setIfInBounds_toArray, List.set_cons_zero] at ks0
          simp at kc0
          have kc1 := cell_of_row (w4.setCell ⟨w.heap.size, 0, none⟩ (.int .i64 s2)) w.heap.size 1 _ _ _ ks0
          have kz1 := frozen_of_row (w4.setCell ⟨w.heap.size, 0, none⟩ (.int .i64 s2)) w.heap.size 1 _ _ ks0
          have ks1 := heap_setCell_same (w4.setCell ⟨w.heap.size, 0, none⟩ (.int .i64 s2)) w.heap.size 1 _ _ (.int .i64 g2) ks0
          simp only [List.setIfInBounds_toArray, List.set_cons_zero, List.set_cons_succ] at ks1
          simp at kc1
          have kc2 := cell_of_row ((w4.setCell ⟨w.heap.size, 0, none⟩ (.int .i64 s2)).setCell ⟨w.heap.size, 1, none⟩ (.int .i64 g2)) w.heap.size 2 _ _ _ ks1
          have kz2 := frozen_of_row ((w4.setCell ⟨w.heap.size, 0, none⟩ (.int .i64 s2)).setCell ⟨w.heap.size, 1, none⟩ (.int .i64 g2)) w.heap.size 2 _ _ ks1
          have ks2 := heap_setCell_same ((w4.setCell ⟨w.heap.size, 0, none⟩ (.int .i64 s2)).setCell ⟨w.heap.size, 1, none⟩ (.int .i64 g2)) w.heap.size 2 _ _ (.int .i64 r2) ks1
          simp only [List.setIfInBounds_toArray, List.set_cons_zero, List.set_cons_succ] at ks2
          simp at kc2
          have hT : Tch [w.heap.size] w4 (((w4.setCell ⟨w.heap.size, 0, none⟩ (.int .i64 s2)).setCell ⟨w.heap.size, 1, none⟩ (.int .i64 g2)).setCell ⟨w.heap.size, 2, none⟩ (.int .i64 r2)) := ((((Tch.refl [w.heap.size] w4).setK (by simp) _ _).setK (by simp) _ _).setK (by simp) _ _)
          have HRn := Hid.mk (show HRow (((w4.setCell ⟨w.heap.size, 0, none⟩ (.int .i64 s2)).setCell ⟨w.heap.size, 1, none⟩ (.int .i64 g2)).setCell ⟨w.heap.size, 2, none⟩ (.int .i64 r2)) w.heap.size ⟨s2, g2, r2⟩ from ks2)
          have HZn := Hid.mk (HZ4.out.other hT (by omega))
          have HBn := Hid.mk (Tch.below HB4.out hT (by simp) (Nat.le_refl _))
          rw [HH2.out] at HRn
          clear hT
          go_wp2_with fail
          go_roundw
          case rel => exact ⟨k + 1, by omega, by go_num, HRn, HZn, HBn⟩
          case measure => simp [intOf]; omega
    · have e : k = n := by omega
      have HRR := HR.out
      rw [e, ← HXe.out] at HRR
      have hkn2 : (n : Int) ≤ (k : Int) := by omega
      obtain ⟨y0, y1, y2⟩ := HRR.at
      simp only at y0 y1 y2
      clear HRR e
      have hZ := HZ.out
      unfold HRow at hZ
      simp only at hZ
      have kc0 := cell_of_row wr (w.heap.size + 1) 0 _ _ _ hZ
      have kz0 := frozen_of_row wr (w.heap.size + 1) 0 _ _ hZ
      have ks0 := heap_setCell_same wr (w.heap.size + 1) 0 _ _ (.int .i64 xs) hZ
      simp only [List.setIfInBounds_toArray, List.set_cons_zero] at ks0
      simp at kc0
      have kc1 := cell_of_row (wr.setCell ⟨(w.heap.size + 1), 0, none⟩ (.int .i64 xs)) (w.heap.size + 1) 1 _ _ _ ks0
      have kz1 := frozen_of_row (wr.setCell ⟨(w.heap.size + 1), 0, none⟩ (.int .i64 xs)) (w.heap.size + 1) 1 _ _ ks0
      have ks1 := heap_setCell_same (wr.setCell ⟨(w.heap.size + 1), 0, none⟩ (.int .i64 xs)) (w.heap.size + 1) 1 _ _ (.int .i64 xg) ks0
      simp only [List.setIfInBounds_toArray, List.set_cons_zero, List.set_cons_succ] at ks1
      simp at kc1
      have kc2 := cell_of_row ((wr.setCell ⟨(w.heap.size + 1), 0, none⟩ (.int .i64 xs)).setCell ⟨(w.heap.size + 1), 1, none⟩ (.int .i64 xg)) (w.heap.size + 1) 2 _ _ _ ks1
      have kz2 := frozen_of_row ((wr.setCell ⟨(w.heap.size + 1), 0, none⟩ (.int .i64 xs)).setCell ⟨(w.heap.size + 1), 1, none⟩ (.int .i64 xg)) (w.heap.size + 1) 2 _ _ ks1
      have ks2 := heap_setCell_same ((wr.setCell ⟨(w.heap.size + 1), 0, none⟩ (.int .i64 xs)).setCell ⟨(w.heap.size + 1), 1, none⟩ (.int .i64 xg)) (w.heap.size + 1) 2 _ _ (.int .i64 xr) ks1
      simp only [List.setIfInBounds_toArray, List.set_cons_zero, List.set_cons_succ] at ks2
      simp at kc2
      have hT : Tch [w.heap.size + 1] wr (((wr.setCell ⟨(w.heap.size + 1), 0, none⟩ (.int .i64 xs)).setCell ⟨(w.heap.size + 1), 1, none⟩ (.int .i64 xg)).setCell ⟨(w.heap.size + 1), 2, none⟩ (.int .i64 xr)) := ((((Tch.refl [w.heap.size + 1] wr).setK (by simp) _ _).setK (by simp) _ _).setK (by simp) _ _)
      have HFIN := Hid.mk ks2
      have HBn := Hid.mk (below1 HB.out hT (Nat.le_succ _))
      clear hT
      go_wp2_with fail
      refine bodyPost_ret (stepP_res _ _ (w.heap.size + 1) _ _ _ rfl rfl rfl HFIN.out rfl) rfl ?_
      exact ⟨rfl, HBn.out⟩
theorem stepP_any : StepIs := by
  intro h a n c zs w hz
  rcases Bool.eq_false_or_eq_true (okB h) with ho | ho
  · by_cases hn : 1000 < n
    · have hE : stepE h zs = 2 := by unfold stepE; rw [if_pos ho, if_pos (by rw [hz.1]; exact hn)]
      have hA : stepA h zs = 0 := by unfold stepA; rw [hE]; rfl
      have hO : stepO h zs = zeroH := by unfold stepO; rw [hE]; rfl
      rw [hE, hA, hO]
      exact stepP_many h a n c zs w hz ho hn
    · by_cases hb : badK zs < n
      · have hE : stepE h zs = 8 := by unfold stepE; rw [if_pos ho, if_neg (by rw [hz.1]; omega), if_pos (by rw [hz.1]; exact hb)]
        have hA : stepA h zs = (badK zs : Int) := by unfold stepA; rw [hE]; rfl
        have hO : stepO h zs = zeroH := by unfold stepO; rw [hE]; rfl
        rw [hE, hA, hO]
        exact stepP_who h a n c zs w hz ho (by omega) hb
      · have hE : stepE h zs = 0 := by unfold stepE; rw [if_pos ho, if_neg (by rw [hz.1]; omega), if_neg (by rw [hz.1]; exact hb)]
        have hA : stepA h zs = 0 := by unfold stepA; rw [hE]; rfl
        have hO : stepO h zs = runK h zs n := by unfold stepO; rw [hE, if_pos rfl, hz.1]
        rw [hE, hA, hO]
        exact stepP_ok h a n c zs w hz ho (by omega) hb
  · have hE : stepE h zs = 3 := by unfold stepE; rw [if_neg (by rw [ho]; decide)]
    have hA : stepA h zs = 0 := by unfold stepA; rw [hE]; rfl
    have hO : stepO h zs = zeroH := by unfold stepO; rw [hE]; rfl
    rw [hE, hA, hO]
    exact stepP_bad h a n c zs w hz ho
set_option maxHeartbeats 4000000 in
theorem tillP_any : TillIs := by
  intro h w hG
  have a1 := fun W => hcheck_any h W
  have HB0 := Hid.mk (hbox w h)
  have HR0 := Hid.mk (HRow.box w h)
  rcases Bool.eq_false_or_eq_true (okB h) with ho | ho
  · have hC0 : chkH h = 0 := by unfold chkH; rw [if_pos ho]
    rw [if_pos ho, hC0]
    rw [hC0] at a1
    have hok := (okB_iff h).1 ho
    unfold okH at hok
    obtain ⟨o1, o2, -⟩ := hok
    have HT := Hid.mk (fun W (hb : Below w.heap.size w W) => (hG.kept hb) 6 (by decide))
    simp only [chgL, List.getD_cons_zero, List.getD_cons_succ] at HT
    unfold tillH
    clear hC0 ho hG
    obtain ⟨s, g, r⟩ := h
    unfold hC at HB0 HR0
    unfold hV at a1 ⊢
    simp only at a1 HB0 HR0 o1 o2 ⊢
    obtain ⟨m0, m1, m2⟩ := HR0.out.at
    simp only at m0 m1 m2
    have HCK := Hid.mk a1
    clear a1
    have hq : (256 - s + 8 - 1).tdiv 8 = (256 - s + 7) / 8 := by rw [Int.tdiv_eq_ediv_of_nonneg (by omega)]; congr 1; omega
    go_enter Tryd.func13, Tryd.ntmps13
    go_wp2_with fail
    refine (HCK.out _).mono ?_
    rintro e w1 ⟨rfl, hb1⟩
    have HB1 := Hid.mk (bl2 HB0.out hb1)
    have t6 := HT.out _ HB1.out
    obtain ⟨y0, y1, y2⟩ := (HR0.out.kept hb1).at
    simp only at y0 y1 y2
    clear hb1 m0 m1 m2
    go_wp2_with fail
    go_ret2
    exact ⟨rfl, HB1.out⟩
  · have hC3 : chkH h = 3 := by unfold chkH; rw [if_neg (by rw [ho]; decide)]
    rw [if_neg (by rw [ho]; decide), hC3]
    rw [hC3] at a1
    clear hC3 ho hG
    obtain ⟨s, g, r⟩ := h
    unfold hC at HB0 HR0
    unfold hV at a1 ⊢
    simp only at a1 HB0 HR0 ⊢
    obtain ⟨m0, m1, m2⟩ := HR0.out.at
    simp only at m0 m1 m2
    have HCK := Hid.mk a1
    clear a1
    go_enter Tryd.func13, Tryd.ntmps13
    go_wp2_with fail
    refine (HCK.out _).mono ?_
    rintro e w1 ⟨rfl, hb1⟩
    have HB1 := Hid.mk (bl2 HB0.out hb1)
    clear hb1 m0 m1 m2
    go_wp2_with fail
    go_ret2
    exact ⟨rfl, HB1.out⟩
end Bw
end Go.Proofs.YtemjjkjceeljbaaDoor
