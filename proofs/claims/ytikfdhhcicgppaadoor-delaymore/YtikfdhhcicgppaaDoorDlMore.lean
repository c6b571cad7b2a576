/- The law DelayMore: with one task more behind all of them nobody waits shorter. -/
import Derived.Test.YtikfdhhcicgppaaDoorDlClone
namespace Go.Proofs.YtikfdhhcicgppaaDoor
open Go.ChangeShapes Go.WideShapes Go.ChangeAt Go.RowKit Go.Sort
namespace Bw
set_option linter.unusedVariables false
theorem five_newD (w : World) (r : Tk) (T : TypeId) : ∀ j u, (tk5 r)[j]? = some u → (w.alloc (.cells #[.int .i64 r.id, .int .i64 r.by_, .int .i64 r.ev, .int .i64 r.la, .int .i64 r.ji] T)).cell? ((⟨w.heap.size, 0, none⟩ : Addr).add j) = some u := by
  intro j u hu
  match j, hu with
  | 0, hu => cases hu; exact cell_of_row _ _ 0 _ _ _ (heap_alloc_new w _)
  | 1, hu => cases hu; exact cell_of_row _ _ 1 _ _ _ (heap_alloc_new w _)
  | 2, hu => cases hu; exact cell_of_row _ _ 2 _ _ _ (heap_alloc_new w _)
  | 3, hu => cases hu; exact cell_of_row _ _ 3 _ _ _ (heap_alloc_new w _)
  | 4, hu => cases hu; exact cell_of_row _ _ 4 _ _ _ (heap_alloc_new w _)
theorem five_atD {w : World} {g : Nat} {r : Tk} (h : TkAt w g r) : ∀ j u, (tk5 r)[j]? = some u → w.cell? ((⟨g, 0, none⟩ : Addr).add j) = some u := by
  intro j u hu
  match j, hu with
  | 0, hu => cases hu; exact h.c0
  | 1, hu => cases hu; exact h.c1
  | 2, hu => cases hu; exact h.c2
  | 3, hu => cases hu; exact h.c3
  | 4, hu => cases hu; exact h.c4
theorem own_base {w : World} {b b' : Nat} {e : TypeId} {size : Nat} {v : Value} {n : Nat} {xs : List Value} (h : w.ownsRow b e size v n xs) (hb : b' ≤ b) : w.ownsRow b' e size v n xs := by
  obtain ⟨h1, h2⟩ := h
  refine ⟨h1, ?_⟩
  rcases h2 with h2 | ⟨g, c, cur, q1, q2, q3⟩
  · exact .inl h2
  · exact .inr ⟨g, c, cur, q1, Nat.le_trans hb q2, q3⟩
theorem tkCs_snoc (l : List Tk) (r : Tk) : tkCs l ++ tk5 r = tkCs (l ++ [r]) := by unfold tkCs; simp
theorem stL_at (l : List Tk) {n i : Nat} (h : i < n) : (stL l n).getD i (0, false) = (stopAt l i, fitB l i) := by simp [stL, List.getD, h]
set_option maxHeartbeats 8000000 in
set_option maxRecDepth 100000 in
theorem dmore_any (a : Option Addr) (n c : Nat) (l : List Tk) (t : Tk) (w : World) (hT : IsTks w a n c l) (hn : n * 40 ≤ 140737488351232) (hS : SizesAt w) (hR : RulesAt w) :
    Calls Tryd.prog 4 #[.slice a n c, t.val] w fun e w' => e = .returned (.bool true) ∧ Below w.heap.size w w' := by
  have hb0 := awD w (tkC t)
  have HX0 := Hid.mk (TkAt.new w t)
  have HT0 := Hid.mk (hT.kept hb0)
  have HS0 := Hid.mk (hS.kept hb0)
  have HR0 := Hid.mk (hR.kept hb0)
  have HB0 := Hid.mk hb0
  have HWO := Hid.mk (worst_any a n c l _ (hT.kept hb0) (hS.kept hb0) (hR.kept hb0))
  have hnl : n ≤ 3518437208780 := by omega
  have HNN := Hid.mk hn
  have HLN := Hid.mk hT.len
  have HLX := Hid.mk (show w.heap.size < (w.alloc (tkC t)).heap.size by rw [allocS]; omega)
  obtain ⟨i0, hi0, hz0, hz1, hz2⟩ := info_partsD info_task
  obtain ⟨E1, hE1⟩ : ∃ E1 : Int, E1 = chkT l := ⟨_, rfl⟩
  obtain ⟨E2, hE2⟩ : ∃ E2 : Int, E2 = chkT (l ++ [t]) := ⟨_, rfl⟩
  have HE1 := Hid.mk hE1
  have HE2 := Hid.mk hE2
  rw [← hE1] at HWO
  clear hT hS hR hb0 hn hE1 hE2
  unfold tkC at HX0 HT0 HS0 HR0 HB0 HWO HLX
  unfold Tk.val
  go_enter Tryd.func4, Tryd.ntmps4
  go_wp2_with fail
  refine HWO.out.mono ?_
  rintro e w1 ⟨b1, m1, d1, rfl, hok1, hbad1, hb1⟩
  have HB1 := Hid.mk (bl2 HB0.out hb1)
  have HT1 := Hid.mk (HT0.out.kept hb1)
  have HS1 := Hid.mk (HS0.out.kept hb1)
  have HR1 := Hid.mk (HR0.out.kept hb1)
  have HX1 := Hid.mk (HX0.out.kept hb1)
  have HLX1 := Hid.mk (Nat.lt_of_lt_of_le HLX.out hb1.size)
  have HO1 := Hid.mk hok1
  have HN1 := Hid.mk hbad1
  clear hb1 hok1 hbad1 HWO HT0 HS0 HR0 HX0 HB0 HLX
  go_wp2_with fail
  go_cut [7, 8] (fun s7 s8 wx => ∃ b2 m2 d2, s7 = .slice b2 m2 d2 ∧ s8 = .int .i64 E2 ∧ Hid (E2 = 0 → m2 = n + 1 ∧ IsSts wx b2 (n + 1) (stL (l ++ [t]) (n + 1))) ∧ Hid (Below w1.heap.size w1 wx))
  case first =>
    have hS0 := HX1.out.all
    have HD1 := Hid.mk (drewBD w1)
    have HD2 := Hid.mk (adrewBD w1 (.cells #[.int .i64 t.id, .int .i64 t.by_, .int .i64 t.ev, .int .i64 t.la, .int .i64 t.ji] 32))
    have HCL : Hid (∀ W, Below w1.heap.size w1 W → Calls Tryd.prog 12 #[.slice a n c] W fun e w' => ∃ v, e = .returned v ∧ w'.ownsRow w1.heap.size 32 5 v n (tkCs l) ∧ Below W.heap.size W w') := Hid.mk (fun W hW => (cloneT_any a n c l W (HT1.out.kept hW) HNN.out).mono (fun e w' ⟨v, h1, h2, h3⟩ => ⟨v, h1, own_base h2 hW.size, h3⟩))
    have HWO : Hid (∀ W g d, Below w1.heap.size w1 W → IsTks W (some ⟨g, 0, none⟩) (n + 1) d (l ++ [t]) → Calls Tryd.prog 6 #[.slice (some ⟨g, 0, none⟩) (n + 1) d] W fun e w' => ∃ b m d, e = .returned (.tuple #[.slice b m d, .int .i64 E2]) ∧ (E2 = 0 → m = n + 1 ∧ IsSts w' b (n + 1) (stL (l ++ [t]) (n + 1))) ∧ (E2 ≠ 0 → m = 0) ∧ Below W.heap.size W w') := Hid.mk (fun W g d hW hI => by rw [HE2.out]; exact worst_any _ _ _ _ W hI (HS1.out.kept hW) (HR1.out.kept hW))
    have HK2 : Hid (TkAt (w1.alloc (.cells #[.int .i64 t.id, .int .i64 t.by_, .int .i64 t.ev, .int .i64 t.la, .int .i64 t.ji] 32)).drew w1.heap.size t) := Hid.mk ((TkAt.new w1 t).kept (drewBD _))
    go_region_held3 (fun w' => w'.cell? ⟨w.heap.size, 0, none⟩ = some (.int .i64 t.id) ∧ w'.cell? ⟨w.heap.size, 1, none⟩ = some (.int .i64 t.by_) ∧ w'.cell? ⟨w.heap.size, 2, none⟩ = some (.int .i64 t.ev) ∧ w'.cell? ⟨w.heap.size, 3, none⟩ = some (.int .i64 t.la) ∧ w'.cell? ⟨w.heap.size, 4, none⟩ = some (.int .i64 t.ji)) (with_reducible first | exact hS0 | exact (HX1.out.kept HD1.out).all | exact (HX1.out.kept HD2.out).all | exact (HX1.out.kept HB2.out).all | exact (HX1.out.kept (bl2 HB2.out (awD _ _))).all | exact (HX1.out.kept HB3.out).all | exact (HX1.out.kept HB4.out).all) (first
      | (go_at_call 12; (first
        | (with_reducible refine (HCL.out _ HD1.out).mono ?_; rintro e w2 ⟨v, rfl, ho2, hb2⟩; have HB2 := Hid.mk (bl2 HD1.out hb2); have HO2 := Hid.mk ho2; clear hb2 ho2)
        | (with_reducible refine (HCL.out _ HD2.out).mono ?_; rintro e w2 ⟨v, rfl, ho2, hb2⟩; have HB2 := Hid.mk (bl2 HD2.out hb2); have HO2 := Hid.mk ho2; have HK3 := Hid.mk (HK2.out.kept hb2); clear hb2 ho2)))
      | (go_at_call 6; with_reducible refine (HWO.out _ _ _ HB3.out HI3.out).mono ?_; rintro e w4 ⟨b2, m2, d2, rfl, hok2, hbad2, hb4⟩; have HB4 := Hid.mk (bl2 HB3.out hb4); have HO4 := Hid.mk hok2; clear hb4 hok2 hbad2)
      | (refine step_append_lies _ rfl (.tmp 17) (.tmp 19) 22 rfl w1.heap.size 32 i0 (.agg #[.int .i64 0, .int .i64 0, .int .i64 0, .int .i64 0, .int .i64 0]) 5 40 Tryd.underlying22 hi0 hz0 hz1 hz2 rfl (by decide) _ n _ rfl (ownsRow_below HO2.out (awD w2 _)) ⟨w2.heap.size, 0, none⟩ 1 1 (tk5 t) rfl rfl (five_newD w2 t _) (by intro u hu; unfold tk5 at hu; simp at hu; rcases hu with rfl | rfl | rfl | rfl | rfl <;> rfl) (by decide) (by unfold maxLen; omega) (by omega) (by have := HB2.out.size; rw [allocS]; omega) _ rfl ?_
         intro g3 d3 w3 hown3 hgrow3 hblk3 hlt3
         have HB3 := Hid.mk (below_grown (bl2 HB2.out (awD w2 _)) (ownsRow_below HO2.out (awD w2 _)) hgrow3 (Nat.le_refl _))
         have HI3 := Hid.mk (tks_own (by rw [tkCs_snoc] at hown3; exact hown3) (by rw [List.length_append, HLN.out]; rfl))
         clear hown3 hgrow3 hblk3 hlt3)
      | (refine step_append_lies _ rfl (.tmp 17) (.tmp 19) 22 rfl w1.heap.size 32 i0 (.agg #[.int .i64 0, .int .i64 0, .int .i64 0, .int .i64 0, .int .i64 0]) 5 40 Tryd.underlying22 hi0 hz0 hz1 hz2 rfl (by decide) _ n _ rfl HO2.out ⟨w1.heap.size, 0, none⟩ 1 1 (tk5 t) rfl rfl (five_atD HK3.out) (by intro u hu; unfold tk5 at hu; simp at hu; rcases hu with rfl | rfl | rfl | rfl | rfl <;> rfl) (by decide) (by unfold maxLen; omega) (by omega) HB2.out.size _ rfl ?_
         intro g3 d3 w3 hown3 hgrow3 hblk3 hlt3
         have HB3 := Hid.mk (below_grown HB2.out HO2.out hgrow3 (Nat.le_refl _))
         have HI3 := Hid.mk (tks_own (by rw [tkCs_snoc] at hown3; exact hown3) (by rw [List.length_append, HLN.out]; rfl))
         clear hown3 hgrow3 hblk3 hlt3))
    all_goals focus
      go_wp2_with fail
      go_meet
      exact ⟨_, _, _, rfl, rfl, HO4, HB4⟩
  case rest =>
    obtain ⟨b2, m2, d2, rfl, rfl, HO2, HBc⟩ := hcut
    have HB2 := Hid.mk (bl2 HB1.out HBc.out)
    have HS2 := Hid.mk (HS1.out.kept HBc.out)
    have HR2 := Hid.mk (HR1.out.kept HBc.out)
    have HO1c : Hid (E1 = 0 → m1 = n ∧ IsSts wc b1 n (stL l n)) := Hid.mk (fun h => ⟨(HO1.out h).1, (HO1.out h).2.kept HBc.out⟩)
    have HDL := Hid.mk (fun W h1 h2 => delayed_any W h1 h2)
    clear HB1 HS1 HR1 HBc HO1 HT1 HX1 HLX1
    go_wp2_with fail
    refine (HDL.out _ HS2.out HR2.out).mono ?_
    rintro e w3 ⟨rfl, hb3⟩
    have HB3 := Hid.mk (bl2 HB2.out hb3)
    have HS3 := Hid.mk (HS2.out.kept hb3)
    have HR3 := Hid.mk (HR2.out.kept hb3)
    have HK3 := Hid.mk hb3
    clear hb3 HS2 HR2 HB2
    by_cases h1 : E1 = 0
    · subst h1
      by_cases h2 : E2 = 0
      · subst h2
        obtain ⟨e1, hI1⟩ := HO1c.out rfl
        obtain ⟨e2, hI2⟩ := HO2.out rfl
        subst e1 e2
        have HI1 := Hid.mk (hI1.kept HK3.out)
        have HI2 := Hid.mk (hI2.kept HK3.out)
        have HMR : Hid (∀ i, i < m1 → 0 ≤ stopAt (l ++ [t]) i → 0 ≤ stopAt l i ∧ stopAt l i ≤ stopAt (l ++ [t]) i) := Hid.mk (fun i hi h0 => more_any HE2.out.symm (by rw [HLN.out]; exact hi) h0)
        have hm20 : (m1 : Int) ≤ 20 := by have := (chkT_ok HE1.out.symm).1; have := HLN.out; omega
        clear hI1 hI2 HO1c HO2 HK3
        go_wp2_with fail
        go_loopw [37] (fun i wr => ∃ k : Nat, k ≤ m1 ∧ i = .int .i64 k ∧ Hid (Below w3.heap.size w3 wr)) (fun i _ => m1 - (intOf i).toNat)
        case atStart => exact ⟨0, Nat.zero_le _, rfl, Hid.mk (Below.refl _ _)⟩
        case round =>
          obtain ⟨k, hk, rfl, HB⟩ := hrel
          by_cases hlt : k < m1
          · have hlt' : (k : Int) < (m1 : Int) := by omega
            have hlt2 : (k : Int) < (m1 : Int) + 1 := by omega
            have hlt3 : (k : Int) < ((m1 + 1 : Nat) : Int) := by omega
            obtain ⟨x, rfl⟩ : ∃ x, b1 = some x := by
              cases b1 with
              | none => exact absurd (HI1.out.nil rfl) (by omega)
              | some x => exact ⟨x, rfl⟩
            obtain ⟨y, rfl⟩ : ∃ y, b2 = some y := by
              cases b2 with
              | none => exact absurd (HI2.out.nil rfl) (by omega)
              | some y => exact ⟨y, rfl⟩
            obtain ⟨a0, -⟩ := (HI1.out.kept HB.out).cell x rfl k hlt
            obtain ⟨c0, -⟩ := (HI2.out.kept HB.out).cell y rfl k (by omega)
            rw [stL_at l hlt] at a0
            rw [stL_at (l ++ [t]) (show k < m1 + 1 by omega)] at c0
            have hmr := HMR.out k hlt
            generalize stopAt l k = A at *
            generalize stopAt (l ++ [t]) k = B at *
            simp only at a0 c0
            by_cases h0 : 0 ≤ B
            · obtain ⟨g1, g2⟩ := hmr h0
              have hd0 : decide (0 ≤ B) = true := decide_eq_true h0
              have hd1 : decide (A < 0) = false := decide_eq_false (by omega)
              have hd2 : decide (B < A) = false := decide_eq_false (by omega)
              clear hmr
              go_wp2_with fail
              go_quiet (fail)
              go_wp2_with fail
              go_roundw
              case rel => exact ⟨k + 1, by omega, by go_num, Hid.mk (below_drD HB.out _)⟩
              case measure => simp [intOf]; omega
            · have hd0 : decide (0 ≤ B) = false := decide_eq_false h0
              clear hmr
              go_wp2_with fail
              go_quiet (fail)
              go_wp2_with fail
              go_roundw
              case rel => exact ⟨k + 1, by omega, by go_num, Hid.mk (below_drD HB.out _)⟩
              case measure => simp [intOf]; omega
          · obtain rfl : k = m1 := by omega
            go_wp2_with fail
            go_ret
            exact ⟨rfl, bl2 HB3.out HB.out⟩
      · have hne : (E2 != 0) = true := by simpa using h2
        clear h2
        go_wp2_with fail
        refine (HDL.out _ HS3.out HR3.out).mono ?_
        rintro e w4 ⟨rfl, hb4⟩
        have HB4 := Hid.mk (bl2 HB3.out hb4)
        clear hb4
        go_wp2_with fail
        go_ret
        exact ⟨rfl, HB4.out⟩
    · have hne : (E1 != 0) = true := by simpa using h1
      clear h1
      go_wp2_with fail
      refine (HDL.out _ HS3.out HR3.out).mono ?_
      rintro e w4 ⟨rfl, hb4⟩
      have HB4 := Hid.mk (bl2 HB3.out hb4)
      clear hb4
      go_wp2_with fail
      go_ret
      exact ⟨rfl, HB4.out⟩
end Bw
end Go.Proofs.YtikfdhhcicgppaaDoor
