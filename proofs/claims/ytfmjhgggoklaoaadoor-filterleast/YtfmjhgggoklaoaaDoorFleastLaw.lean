/- The law FilterLeast: its walk. -/
import Derived.Test.YtfmjhgggoklaoaaDoorFilLeastP
import Derived.Test.YtfmjhgggoklaoaaDoorFilEqual
namespace Go.Proofs.YtfmjhgggoklaoaaDoor
open Go.ChangeShapes Go.WideShapes Go.ChangeAt Go.RowKit
namespace Bw
theorem holds_turned (x y : Fn) : holdsN y x = ((x.lo == y.lo) && ((x.m &&& y.m == y.m) && (x.w &&& y.m == y.w &&& y.m))) := by
  unfold holdsN
  rw [Bool.eq_iff_iff]
  simp only [Bool.and_eq_true, beq_iff_eq]
  rw [Nat.and_comm y.m x.m]
  constructor
  · rintro ⟨h1, h2, h3⟩; exact ⟨h1.symm, h2, h3.symm⟩
  · rintro ⟨h1, h2, h3⟩; exact ⟨h1.symm, h2, h3.symm⟩
set_option maxHeartbeats 2000000 in
theorem inAll_any (x y : Fn) (w : World) (hx : okN x) (hy : okN y) :
    Calls Tryd.prog 17 #[x.f.val, y.f.val] w fun e w' => e = .returned (.bool (holdsN y x)) ∧ Below w.heap.size w w' := by
  obtain ⟨x1, x2⟩ := ok_lt hx
  obtain ⟨y1, y2⟩ := ok_lt hy
  have e1 := and_i64 x.m y.m (by omega) (by omega)
  have e2 := and_i64 x.w y.m (by omega) (by omega)
  have e3 := and_i64 y.w y.m (by omega) (by omega)
  have HB := Hid.mk (box2_below w x.f y.f)
  rw [holds_turned]
  clear hx hy x1 x2 y1 y2
  unfold box2 at HB
  unfold Fn.f Fl.val at *
  obtain ⟨xw, xm, xl⟩ := x
  obtain ⟨yw, ym, yl⟩ := y
  simp only at HB e1 e2 e3 ⊢
  by_cases hl : xl = yl
  · subst hl
    by_cases h1 : xm &&& ym = ym
    · have b1 : (bits .and .i64 (xm : Int) (ym : Int) == (ym : Int)) = true := by rw [e1, h1]; simp
      by_cases h2 : xw &&& ym = yw &&& ym
      · have b2 : (bits .and .i64 (xw : Int) (ym : Int) == bits .and .i64 (yw : Int) (ym : Int)) = true := by rw [e2, e3, h2]; simp
        have hr : ((xl == xl) && ((xm &&& ym == ym) && (xw &&& ym == yw &&& ym))) = true := by simp [h1, h2]
        rw [hr]
        clear e1 e2 e3 h1 h2 hr
        go_enter Tryd.func17, Tryd.ntmps17
        go_wp2_with fail
        go_ret
        exact ⟨rfl, HB.out⟩
      · have b2 : (bits .and .i64 (xw : Int) (ym : Int) == bits .and .i64 (yw : Int) (ym : Int)) = false := by rw [e2, e3, beq_eq_false_iff_ne]; omega
        have hr : ((xl == xl) && ((xm &&& ym == ym) && (xw &&& ym == yw &&& ym))) = false := by simp [h2]
        rw [hr]
        clear e1 e2 e3 h1 h2 hr
        go_enter Tryd.func17, Tryd.ntmps17
        go_wp2_with fail
        go_ret
        exact ⟨rfl, HB.out⟩
    · have b1 : (bits .and .i64 (xm : Int) (ym : Int) == (ym : Int)) = false := by rw [e1, beq_eq_false_iff_ne]; omega
      have hr : ((xl == xl) && ((xm &&& ym == ym) && (xw &&& ym == yw &&& ym))) = false := by simp [h1]
      rw [hr]
      clear e1 e2 e3 h1 hr
      go_enter Tryd.func17, Tryd.ntmps17
      go_wp2_with fail
      go_ret
      exact ⟨rfl, HB.out⟩
  · have hb : (xl == yl) = false := by simpa using hl
    rw [hb]
    simp only [Bool.false_and]
    clear e1 e2 e3 hl
    go_enter Tryd.func17, Tryd.ntmps17
    go_wp2_with fail
    go_ret
    exact ⟨rfl, HB.out⟩
set_option maxHeartbeats 4000000 in
set_option maxRecDepth 100000 in
theorem fleast_bad (a : Option Addr) (n c : Nat) (l : List Fl) (w : World) (hF : IsFils w a n c l) (hL : LastsAt w) (hE : chkFl l ≠ 0) :
    Calls Tryd.prog 4 #[.slice a n c] w fun e w' => e = .returned (.bool true) ∧ Below w.heap.size w w' := by
  have HA := Hid.mk (least_bad a n c l w hF hL hE)
  have HR := Hid.mk (fun W (hb : Below w.heap.size w W) => checkFilters_any a n c l W (hF.kept hb))
  have HFI := Hid.mk (fun W (hb : Below w.heap.size w W) => filtered_any W (hL.kept hb))
  have he : (chkFl l != 0) = true := by simpa using hE
  clear hF hL hE
  generalize chkFl l = ec at *
  go_enter Tryd.func4, Tryd.ntmps4
  go_wp2_with fail
  refine HA.out.mono ?_
  rintro e w1 ⟨rfl, hb1⟩
  have HB1 := Hid.mk hb1
  clear hb1
  go_wp2_with fail
  refine (HR.out _ HB1.out).mono ?_
  rintro e w2 ⟨rfl, hb2⟩
  have HB2 := Hid.mk (bl2 HB1.out hb2)
  clear hb2
  go_wp2_with fail
  refine (HFI.out _ HB2.out).mono ?_
  rintro e w3 ⟨rfl, hb3⟩
  have HB3 := Hid.mk (bl2 HB2.out hb3)
  clear hb3
  go_wp2_with fail
  refine (HFI.out _ HB3.out).mono ?_
  rintro e w4 ⟨rfl, hb4⟩
  have HB4 := Hid.mk (bl2 HB3.out hb4)
  clear hb4
  go_wp2_with fail
  go_ret
  exact ⟨rfl, HB4.out⟩
def goesJ (l : List Fn) (i j : Nat) : Bool := (List.range j).any (goesBy l i)
theorem goesJ_more (l : List Fn) (i j : Nat) : goesJ l i (j + 1) = (goesJ l i j || goesBy l i j) := by
  unfold goesJ
  rw [List.range_succ, List.any_append]
  simp
theorem goesBy_same (l : List Fn) (i : Nat) : goesBy l i i = false := by
  unfold goesBy
  rw [if_neg (Nat.lt_irrefl _), if_neg (Nat.lt_irrefl _)]
theorem goesBy_no {l : List Fn} {i j : Nat} (h : holdsN (l.getD j ⟨0, 0, false⟩) (l.getD i ⟨0, 0, false⟩) = false) : goesBy l i j = false := by
  unfold goesBy
  rw [h]
  simp
theorem goesBy_less {l : List Fn} {i j : Nat} (h : holdsN (l.getD j ⟨0, 0, false⟩) (l.getD i ⟨0, 0, false⟩) = true) (hj : j < i) : goesBy l i j = true := by
  unfold goesBy
  rw [if_pos hj, h]
theorem goesBy_more {l : List Fn} {i j : Nat} (h : holdsN (l.getD j ⟨0, 0, false⟩) (l.getD i ⟨0, 0, false⟩) = true) (hj : i < j) : goesBy l i j = !holdsN (l.getD i ⟨0, 0, false⟩) (l.getD j ⟨0, 0, false⟩) := by
  unfold goesBy
  rw [if_neg (by omega), if_pos hj, h]
  simp
set_option maxHeartbeats 8000000 in
set_option maxRecDepth 100000 in
theorem fleast_ok (a : Option Addr) (n c : Nat) (l : List Fn) (w : World) (hF : IsFils w a n c (l.map Fn.f)) (hL : LastsAt w) (hok : ∀ x ∈ l, okN x) (hn : n ≤ 16) :
    Calls Tryd.prog 4 #[.slice a n c] w fun e w' => e = .returned (.bool true) ∧ Below w.heap.size w w' := by
  obtain ⟨i0, hi, hz0, hz1, hz2⟩ := info_parts info_fil
  have hlen : l.length = n := by have := hF.len; simpa using this
  have HA := Hid.mk (least_okP a n c l w hF hL hok hn)
  have hR := fun W (hb : Below w.heap.size w W) => checkFilters_any a n c _ W (hF.kept hb)
  rw [chk_ok hok (by omega)] at hR
  have HR := Hid.mk hR
  have HFI := Hid.mk (fun W (hb : Below w.heap.size w W) => filtered_any W (hL.kept hb))
  have HF := Hid.mk hF
  have HOK := Hid.mk hok
  have HLN := Hid.mk hlen
  clear hF hL hok hR hlen
  go_enter Tryd.func4, Tryd.ntmps4
  go_wp2_with fail
  refine HA.out.mono ?_
  rintro e w1 ⟨v, rfl, hown, hb1⟩
  obtain ⟨am, cm, rfl, hM⟩ := fils_of hown
  obtain ⟨N, hN⟩ : ∃ N, N = (leastN l).length := ⟨_, rfl⟩
  rw [← hN] at hM ⊢
  have HN := Hid.mk hN
  have HM1 := Hid.mk hM
  have HB1 := Hid.mk hb1
  clear hb1 hM hown hN HA
  go_wp2_with fail
  refine (HR.out _ HB1.out).mono ?_
  rintro e w2 ⟨rfl, hb2⟩
  have HB2 := Hid.mk (bl2 HB1.out hb2)
  have HM2 := Hid.mk (HM1.out.kept hb2)
  clear hb2 HM1 HB1 HR
  go_wp2_with fail
  refine (HFI.out _ HB2.out).mono ?_
  rintro e w3 ⟨rfl, hb3⟩
  have HB3 := Hid.mk (bl2 HB2.out hb3)
  have HM3 := Hid.mk (HM2.out.kept hb3)
  have HF3 := Hid.mk (HF.out.kept HB3.out)
  clear hb3 HM2 HB2 HFI HF
  go_wp2_with fail
  go_loopw [6, 38] (fun v i wr => ∃ k : Nat, k ≤ n ∧ i = .int .i64 k ∧ Hid (wr.ownsRow w3.heap.size 34 3 v (leastK l k).length (filC (leastK l k))) ∧ Hid (Below w3.heap.size w3 wr)) (fun _ i _ => n - (intOf i).toNat)
  case atStart => exact ⟨0, Nat.zero_le _, rfl, Hid.mk (World.ownsRow_nil _ _ _ _), Hid.mk (Below.refl _ _)⟩
  case round =>
    obtain ⟨k, hk, rfl, HO, HB⟩ := hrel
    obtain ⟨wz, hwz⟩ : ∃ wz, wz = wr := ⟨_, rfl⟩
    rw [← hwz] at HO HB ⊢
    clear hwz
    by_cases hlt : k < n
    · have hlt' : (k : Int) < (n : Int) := by omega
      obtain ⟨X, rfl⟩ := fils_some HF3.out hlt
      obtain ⟨c0, c1, c2⟩ := fils_at (HF3.out.kept HB.out) hlt
      have HM := Hid.mk (least_more l k)
      have hlk := leastK_len l k
      have HOX := Hid.mk (getD_ok HOK.out k)
      have HGJ : Hid (goesJ l k n = goesN l k) := Hid.mk (by unfold goesJ goesN; rw [HLN.out])
      obtain ⟨x, hx⟩ : ∃ x, x = l.getD k ⟨0, 0, false⟩ := ⟨_, rfl⟩
      rw [map_getD l k (by rw [HLN.out]; exact hlt), ← hx] at c0 c1 c2
      rw [← hx] at HM HOX
      have HX := Hid.mk hx
      have hb4 := box1_below wz x.f
      have HG := Hid.mk (FlAt.box wz x.f)
      obtain ⟨w4, hw4⟩ : ∃ w4, w4 = box1 wz x.f := ⟨_, rfl⟩
      rw [← hw4] at hb4 HG
      have HF4 := Hid.mk ((HF3.out.kept HB.out).kept hb4)
      have HO4 := Hid.mk (ownsRow_below HO.out hb4)
      have HB4 := Hid.mk (bl2 HB.out hb4)
      have HW4 : Hid (w4 = wz.alloc (.cells #[.int .i64 (x.w : Int), .int .i64 (x.m : Int), .bool x.lo] 34)) := Hid.mk hw4
      unfold Fn.f at c0 c1 c2
      simp only at c0 c1 c2
      clear hx hb4 hw4
      go_wp2_with fail
      rw [← HW4.out]
      go_loopw [9, 45] (fun s i wr => ∃ j : Nat, j ≤ n ∧ i = .int .i64 j ∧ s = .bool (!goesJ l k j) ∧ Hid (Below w4.heap.size w4 wr)) (fun _ i _ => n - (intOf i).toNat)
      case atStart => exact ⟨0, Nat.zero_le _, rfl, rfl, Hid.mk (Below.refl _ _)⟩
      case round =>
        obtain ⟨j, hj, rfl, rfl, HBj⟩ := hrel
        by_cases hjl : j < n
        · have hjl' : (j : Int) < (n : Int) := by omega
          obtain ⟨e0, e1, e2⟩ := fils_at (HF4.out.kept HBj.out) hjl
          have HOY := Hid.mk (getD_ok HOK.out j)
          obtain ⟨y, hy⟩ : ∃ y, y = l.getD j ⟨0, 0, false⟩ := ⟨_, rfl⟩
          rw [map_getD l j (by rw [HLN.out]; exact hjl), ← hy] at e0 e1 e2
          rw [← hy] at HOY
          have HY := Hid.mk hy
          have hb5 := box1_below wr y.f
          have HG5 := Hid.mk (HG.out.kept (bl2 HBj.out hb5))
          have HY5 := Hid.mk (FlAt.box wr y.f)
          have HB5 := Hid.mk (bl2 HBj.out hb5)
          obtain ⟨p0, p1, p2⟩ := HG5.out
          have HI1 := Hid.mk (fun W => inAll_any x y W HOX.out HOY.out)
          have HI2 := Hid.mk (fun W => inAll_any y x W HOY.out HOX.out)
          unfold box1 at p0 p1 p2 HG5 HY5 HB5
          unfold Fn.f Fl.val at *
          simp only at e0 e1 e2 p0 p1 p2 HI1 HI2 HY5 HG5 HB5
          clear hb5 hy
          by_cases hjk : j = k
          · have hkj : ((k : Int) == (j : Int)) = true := by rw [hjk]; simp
            have HGB : Hid (goesBy l k j = false) := Hid.mk (by rw [hjk]; exact goesBy_same l k)
            clear hjk
            go_wp2_with fail
            go_roundw
            case rel => exact ⟨j + 1, by omega, by go_num, by rw [goesJ_more, HGB.out, Bool.or_false], HB5⟩
            case measure => simp [intOf]; omega
          · have hkj : ((k : Int) == (j : Int)) = false := by rw [beq_eq_false_iff_ne]; omega
            cases h1 : holdsN y x
            · rw [h1] at HI1
              have HGB : Hid (goesBy l k j = false) := Hid.mk (goesBy_no (by rw [← HY.out, ← HX.out]; exact h1))
              clear h1
              go_wp2_with fail
              refine (HI1.out _).mono ?_
              rintro e w6 ⟨rfl, hb6⟩
              have HB6 := Hid.mk (bl2 HB5.out hb6)
              clear hb6
              go_wp2_with fail
              go_roundw
              case rel => exact ⟨j + 1, by omega, by go_num, by rw [goesJ_more, HGB.out, Bool.or_false], HB6⟩
              case measure => simp [intOf]; omega
            · rw [h1] at HI1
              have HH1 : Hid (holdsN (l.getD j ⟨0, 0, false⟩) (l.getD k ⟨0, 0, false⟩) = true) := Hid.mk (by rw [← HY.out, ← HX.out]; exact h1)
              clear h1
              cases h2 : holdsN x y
              · rw [h2] at HI2
                have HGB : Hid (goesBy l k j = true) := Hid.mk (by
                  by_cases hjk2 : j < k
                  · exact goesBy_less HH1.out hjk2
                  · rw [goesBy_more HH1.out (by omega), ← HX.out, ← HY.out, h2]; rfl)
                clear h2
                go_wp2_with fail
                refine (HI1.out _).mono ?_
                rintro e w6 ⟨rfl, hb6⟩
                have HB6 := Hid.mk (bl2 HB5.out hb6)
                obtain ⟨q0, q1, q2⟩ := HG5.out.kept hb6
                obtain ⟨r0, r1, r2⟩ := HY5.out.kept hb6
                simp only at q0 q1 q2 r0 r1 r2
                clear hb6 p0 p1 p2
                go_wp2_with fail
                refine (HI2.out _).mono ?_
                rintro e w7 ⟨rfl, hb7⟩
                have HB7 := Hid.mk (bl2 HB6.out hb7)
                clear hb7
                go_wp2_with fail
                go_roundw
                case rel => exact ⟨j + 1, by omega, by go_num, by rw [goesJ_more, HGB.out, Bool.or_true]; rfl, HB7⟩
                case measure => simp [intOf]; omega
              · rw [h2] at HI2
                by_cases hjk2 : j < k
                · have hjk3 : (j : Int) < (k : Int) := by omega
                  have HGB : Hid (goesBy l k j = true) := Hid.mk (goesBy_less HH1.out hjk2)
                  clear h2
                  go_wp2_with fail
                  refine (HI1.out _).mono ?_
                  rintro e w6 ⟨rfl, hb6⟩
                  have HB6 := Hid.mk (bl2 HB5.out hb6)
                  obtain ⟨q0, q1, q2⟩ := HG5.out.kept hb6
                  obtain ⟨r0, r1, r2⟩ := HY5.out.kept hb6
                  simp only at q0 q1 q2 r0 r1 r2
                  clear hb6 p0 p1 p2
                  go_wp2_with fail
                  refine (HI2.out _).mono ?_
                  rintro e w7 ⟨rfl, hb7⟩
                  have HB7 := Hid.mk (bl2 HB6.out hb7)
                  clear hb7
                  go_wp2_with fail
                  go_roundw
                  case rel => exact ⟨j + 1, by omega, by go_num, by rw [goesJ_more, HGB.out, Bool.or_true]; rfl, HB7⟩
                  case measure => simp [intOf]; omega
                · have hjk3 : (k : Int) ≤ (j : Int) := by omega
                  have HGB : Hid (goesBy l k j = false) := Hid.mk (by rw [goesBy_more HH1.out (by omega), ← HX.out, ← HY.out, h2]; rfl)
                  clear h2
                  go_wp2_with fail
                  refine (HI1.out _).mono ?_
                  rintro e w6 ⟨rfl, hb6⟩
                  have HB6 := Hid.mk (bl2 HB5.out hb6)
                  obtain ⟨q0, q1, q2⟩ := HG5.out.kept hb6
                  obtain ⟨r0, r1, r2⟩ := HY5.out.kept hb6
                  simp only at q0 q1 q2 r0 r1 r2
                  clear hb6 p0 p1 p2
                  go_wp2_with fail
                  refine (HI2.out _).mono ?_
                  rintro e w7 ⟨rfl, hb7⟩
                  have HB7 := Hid.mk (bl2 HB6.out hb7)
                  clear hb7
                  go_wp2_with fail
                  go_roundw
                  case rel => exact ⟨j + 1, by omega, by go_num, by rw [goesJ_more, HGB.out, Bool.or_false], HB7⟩
                  case measure => simp [intOf]; omega
        · have e : j = n := by omega
          rw [e, HGJ.out]
          have HO5 := Hid.mk (ownsRow_below HO4.out HBj.out)
          have HB5 := Hid.mk (bl2 HB4.out HBj.out)
          obtain ⟨p0, p1, p2⟩ := HG.out.kept HBj.out
          unfold Fn.f at p0 p1 p2
          simp only at p0 p1 p2
          clear e
          cases hgo : goesN l k
          · have hm := HM.out
            rw [hgo] at hm
            simp only [Bool.false_eq_true, if_false] at hm
            have HM1 := Hid.mk hm
            have HXL := Hid.mk (ok_lt HOX.out)
            have HAND := Hid.mk (and_i64 x.w x.m (by have := HXL.out; omega) (by have := HXL.out; omega))
            have hlk' : (leastK l k).length ≤ 16 := by omega
            clear hm hgo HM
            go_wp2_with (at_builtin; refine wpList_append_own _ rfl (.tmp 70) (.tmp 81) 22 rfl w3.heap.size 34 i0 (.agg #[.int .i64 0, .int .i64 0, .bool false]) 3 24 Tryd.underlying22 hi hz0 hz1 hz2 rfl (by decide) _ _ _ rfl (HO5.out.alloc _) ⟨wr.heap.size, 0, none⟩ 1 1 [Value.int .i64 (bits .and .i64 (x.w : Int) (x.m : Int)), Value.int .i64 x.m, Value.bool x.lo] rfl rfl (row3_at _ _ rfl _ _ _ _) (by intro u hu; simp at hu; rcases hu with rfl | rfl | rfl <;> rfl) (by unfold maxLen; omega) (by omega) (by have := HB5.out.size; simp; omega) ?_; intro v5 w5 hown5 hgrow5 _)
            have hB6 : Below w3.heap.size w3 w5 := Below.grown (HB5.out.alloc HB5.out.size _) hgrow5 (by have := HB5.out.size; simp; omega) (fun q hq => (HO5.out.lt q hq).1)
            have hown6 := hown5
            rw [HAND.out, ← show filC [bareN x] = [Value.int .i64 ((x.w &&& x.m : Nat) : Int), .int .i64 (x.m : Int), .bool x.lo] from filC_one (bareN x), ← filC_append, ← HM1.out, show (leastK l k).length + 1 = (leastK l (k + 1)).length by rw [HM1.out]; simp] at hown6
            have HO6 := Hid.mk hown6
            have HB6 := Hid.mk hB6
            clear hown5 hown6 hB6 hgrow5
            go_roundw
            case rel => exact ⟨k + 1, by omega, by go_num, HO6, HB6⟩
            case measure => simp [intOf]; omega
          · have hm := HM.out
            rw [hgo] at hm
            simp only [if_true, List.append_nil] at hm
            have HM1 := Hid.mk hm
            clear hm hgo HM
            go_wp2_with fail
            go_roundw
            case rel => exact ⟨k + 1, by omega, by go_num, by rw [HM1.out]; exact HO5, HB5⟩
            case measure => simp [intOf]; omega
    · have e : k = n := by omega
      subst e
      have hO := HO.out
      rw [show leastK l k = leastN l by unfold leastN; rw [HLN.out]] at hO
      obtain ⟨a2, cap2, hv2, hF2⟩ := fils_of hO
      rw [← HN.out] at hv2 hF2
      subst hv2
      have HEQ := Hid.mk (equalF_true _ am a2 N cm cap2 _ (HM3.out.kept HB.out) hF2)
      have HBB := Hid.mk (bl2 HB3.out HB.out)
      clear hO hF2
      go_wp2_with fail
      refine HEQ.out.mono ?_
      rintro e w5 ⟨rfl, hb5⟩
      have HB5 := Hid.mk (bl2 HBB.out hb5)
      clear hb5
      go_wp2_with fail
      go_ret
      exact ⟨rfl, HB5.out⟩
end Bw
end Go.Proofs.YtfmjhgggoklaoaaDoor
