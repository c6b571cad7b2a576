/- The law FilterRanges: its walk. -/
import Derived.Test.YtfmjhgggoklaoaaDoorFilEqual
namespace Go.Proofs.YtfmjhgggoklaoaaDoor
open Go.ChangeShapes Go.WideShapes Go.ChangeAt Go.RowKit
namespace Bw
set_option maxHeartbeats 4000000 in
set_option maxRecDepth 100000 in
theorem frb_false_a (low high : Int) (w : World) (hL : LastsAt w) (h0 : low < 0) (h : ¬ (0 ≤ low ∧ low ≤ high ∧ high ≤ (topN false : Int))) :
    Calls Tryd.prog 6 #[.int .i64 low, .int .i64 high, .bool false] w fun e w' => e = .returned (.bool true) ∧ Below w.heap.size w w' := by
  have HR := Hid.mk (ranges_bad low high false w hL h)
  have HFI := Hid.mk (fun W (hb : Below w.heap.size w W) => filtered_any W (hL.kept hb))
  clear hL h
  go_enter Tryd.func6, Tryd.ntmps6
  go_wp2_with fail
  refine HR.out.mono ?_
  rintro e w1 ⟨rfl, hb1⟩
  have HB1 := Hid.mk hb1
  clear hb1
  go_wp2_with fail
  refine (HFI.out _ HB1.out).mono ?_
  rintro e w2 ⟨rfl, hb2⟩
  have HB2 := Hid.mk (bl2 HB1.out hb2)
  clear hb2
  go_wp2_with fail
  refine (HFI.out _ HB2.out).mono ?_
  rintro e w3 ⟨rfl, hb3⟩
  have HB3 := Hid.mk (bl2 HB2.out hb3)
  clear hb3
  go_wp2_with fail
  go_ret
  exact ⟨rfl, HB3.out⟩
set_option maxHeartbeats 4000000 in
set_option maxRecDepth 100000 in
theorem frb_false_b (low high : Int) (w : World) (hL : LastsAt w) (h0 : 0 ≤ low) (h1 : (2047 : Int) < high) (h : ¬ (0 ≤ low ∧ low ≤ high ∧ high ≤ (topN false : Int))) :
    Calls Tryd.prog 6 #[.int .i64 low, .int .i64 high, .bool false] w fun e w' => e = .returned (.bool true) ∧ Below w.heap.size w w' := by
  have HR := Hid.mk (ranges_bad low high false w hL h)
  have HFI := Hid.mk (fun W (hb : Below w.heap.size w W) => filtered_any W (hL.kept hb))
  clear hL h
  go_enter Tryd.func6, Tryd.ntmps6
  go_wp2_with fail
  refine HR.out.mono ?_
  rintro e w1 ⟨rfl, hb1⟩
  have HB1 := Hid.mk hb1
  clear hb1
  go_wp2_with fail
  refine (HFI.out _ HB1.out).mono ?_
  rintro e w2 ⟨rfl, hb2⟩
  have HB2 := Hid.mk (bl2 HB1.out hb2)
  clear hb2
  go_wp2_with fail
  refine (HFI.out _ HB2.out).mono ?_
  rintro e w3 ⟨rfl, hb3⟩
  have HB3 := Hid.mk (bl2 HB2.out hb3)
  clear hb3
  go_wp2_with fail
  go_ret
  exact ⟨rfl, HB3.out⟩
set_option maxHeartbeats 4000000 in
set_option maxRecDepth 100000 in
theorem frb_false_c (low high : Int) (w : World) (hL : LastsAt w) (h0 : 0 ≤ low) (h1 : high ≤ (2047 : Int)) (h2 : high < low) (h : ¬ (0 ≤ low ∧ low ≤ high ∧ high ≤ (topN false : Int))) :
    Calls Tryd.prog 6 #[.int .i64 low, .int .i64 high, .bool false] w fun e w' => e = .returned (.bool true) ∧ Below w.heap.size w w' := by
  have HR := Hid.mk (ranges_bad low high false w hL h)
  have HFI := Hid.mk (fun W (hb : Below w.heap.size w W) => filtered_any W (hL.kept hb))
  clear hL h
  go_enter Tryd.func6, Tryd.ntmps6
  go_wp2_with fail
  refine HR.out.mono ?_
  rintro e w1 ⟨rfl, hb1⟩
  have HB1 := Hid.mk hb1
  clear hb1
  go_wp2_with fail
  refine (HFI.out _ HB1.out).mono ?_
  rintro e w2 ⟨rfl, hb2⟩
  have HB2 := Hid.mk (bl2 HB1.out hb2)
  clear hb2
  go_wp2_with fail
  refine (HFI.out _ HB2.out).mono ?_
  rintro e w3 ⟨rfl, hb3⟩
  have HB3 := Hid.mk (bl2 HB2.out hb3)
  clear hb3
  go_wp2_with fail
  go_ret
  exact ⟨rfl, HB3.out⟩
set_option maxHeartbeats 8000000 in
set_option maxRecDepth 100000 in
theorem frok_false (low high : Nat) (w : World) (hL : LastsAt w) (h : low ≤ high) (hh : high ≤ 2047) :
    Calls Tryd.prog 6 #[.int .i64 low, .int .i64 high, .bool false] w fun e w' => e = .returned (.bool true) ∧ Below w.heap.size w w' := by
  obtain ⟨i0, hi, hz0, hz1, hz2⟩ := info_parts info_fil
  have HR := Hid.mk (ranges_ok low high false w hL h hh)
  have HFI := Hid.mk (fun W (hb : Below w.heap.size w W) => filtered_any W (hL.kept hb))
  have d0 : decide ((low : Int) < 0) = false := by simp
  have d1 : decide ((high : Int) < (low : Int)) = false := by simp; omega
  have d2 : decide ((2047 : Int) < (high : Int)) = false := by simp; omega
  have d3 : decide (high < low) = false := by simp; omega
  have d4 : decide (2047 < high) = false := by simp; omega
  have hh' : (high : Int) ≤ 2047 := by omega
  have h' : (low : Int) ≤ (high : Int) := by omega
  clear hL
  go_enter Tryd.func6, Tryd.ntmps6
  go_wp2_with fail
  refine HR.out.mono ?_
  rintro e w1 ⟨v, rfl, hown, hb1⟩
  obtain ⟨a, cap, rfl, hF⟩ := fils_of hown
  obtain ⟨N, hN⟩ : ∃ N, N = (rngN false high low).length := ⟨_, rfl⟩
  rw [← hN] at hF ⊢
  have HN := Hid.mk hN
  have HF1 := Hid.mk hF
  have HB1 := Hid.mk hb1
  clear hb1 hF hown hN
  go_wp2_with fail
  refine (HFI.out _ HB1.out).mono ?_
  rintro e w2 ⟨rfl, hb2⟩
  have HB2 := Hid.mk (bl2 HB1.out hb2)
  have HF2 := Hid.mk (HF1.out.kept hb2)
  clear hb2 HF1 HB1 HR HFI
  go_wp2_with fail
  go_loopw [10, 0] (fun v s wr => ∃ (cur : Nat) (acc : List Fn), low ≤ cur ∧ cur ≤ high + 1 ∧ acc.length ≤ cur ∧ s = .int .i64 cur ∧ Hid (acc ++ rngN false high cur = rngN false high low) ∧ Hid (wr.ownsRow w2.heap.size 34 3 v acc.length (filC acc)) ∧ Hid (Below w2.heap.size w2 wr)) (fun _ s _ => high + 1 - (intOf s).toNat)
  case atStart => exact ⟨low, [], Nat.le_refl _, by omega, by simp, rfl, Hid.mk rfl, Hid.mk (World.ownsRow_nil _ _ _ _), Hid.mk (Below.refl _ _)⟩
  case round =>
    obtain ⟨cur, acc, hc1, hc2, hal, rfl, HACC, HO, HB⟩ := hrel
    obtain ⟨wz, hwz⟩ : ∃ wz, wz = wr := ⟨_, rfl⟩
    rw [← hwz] at HO HB ⊢
    clear hwz
    by_cases hlt : cur ≤ high
    · have hlt' : (cur : Int) ≤ (high : Int) := by omega
      obtain ⟨_, hg2⟩ := grX_spec hlt
      have hg1 := Nat.two_pow_pos (grX cur high)
      have HNX := Hid.mk (rngN_more (lo := false) hlt)
      have HGX : Hid (∀ j, (∀ i, i < j → grC cur high i = true) → grC cur high j = false → j ≤ 64 → 2 ^ j = 2 ^ grX cur high) := Hid.mk (fun j p1 p2 p3 => by rw [grX_at p1 p2 p3])
      rw [show topN false = 2047 from rfl] at HNX
      generalize 2 ^ grX cur high = q at *
      go_wp2_with fail
      go_loopw [11] (fun n wr => ∃ j p : Nat, p = 2 ^ j ∧ p ≤ high + 1 ∧ n = .int .i64 (p : Int) ∧ Hid (∀ i, i < j → grC cur high i = true) ∧ wr = wz) (fun n _ => high + 1 - (intOf n).toNat)
      case atStart => exact ⟨0, 1, rfl, by omega, rfl, Hid.mk (fun i h => absurd h (Nat.not_lt_zero _)), rfl⟩
      case round =>
        obtain ⟨j, p, hp, hpb, rfl, HC, hwr⟩ := hrel
        subst hwr
        have hp1 : 1 ≤ p := by rw [hp]; exact Nat.two_pow_pos j
        have hj : j ≤ 30 := pow_le_of (by omega)
        have HP := Hid.mk hp
        clear hp
        have hzz : (cur : Int) % (2 * (p : Int)) = ((cur % (2 * p) : Nat) : Int) := by simp
        by_cases k1 : cur % (2 * p) = 0
        · have hz : ((cur : Int) % (2 * (p : Int)) == 0) = true := by rw [hzz, k1]; rfl
          by_cases k2 : cur + 2 * p ≤ high + 1
          · have hle : (cur : Int) + 2 * (p : Int) - 1 ≤ (high : Int) := by omega
            have hC : grC cur high j = true := by
              unfold grC
              rw [← HP.out]
              simp [k1, k2]
            have HCC := Hid.mk hC
            clear hC hzz k1
            go_wp2_with fail
            go_roundw
            case rel =>
              refine ⟨j + 1, 2 * p, by rw [Nat.pow_succ, ← HP.out]; omega, by omega, by congr 1; omega, Hid.mk fun i hi => ?_, trivial⟩
              by_cases e : i = j
              · subst e; exact HCC.out
              · exact HC.out i (by omega)
            case measure => simp [intOf]; omega
          · have hle : (high : Int) < (cur : Int) + 2 * (p : Int) - 1 := by omega
            have hC : grC cur high j = false := by
              unfold grC
              rw [← HP.out]
              simp; omega
            have hpq := HGX.out j HC.out hC (by omega)
            rw [← HP.out] at hpq
            subst hpq
            clear hC hzz k1
            obtain ⟨mk, hmk⟩ : ∃ mk, mk = 2047 - (p - 1) := ⟨_, rfl⟩
            rw [← hmk] at HNX
            have hmi : (2047 : Int) - ((p : Int) - 1) = (mk : Int) := by omega
            clear hmk
            go_wp2_with (at_builtin; refine wpList_append_own _ rfl (.tmp 65) (.tmp 73) 22 rfl w2.heap.size 34 i0 (.agg #[.int .i64 0, .int .i64 0, .bool false]) 3 24 Tryd.underlying22 hi hz0 hz1 hz2 rfl (by decide) _ _ _ rfl (HO.out.alloc _) ⟨wr.heap.size, 0, none⟩ 1 1 [Value.int .i64 cur, Value.int .i64 mk, Value.bool false] rfl rfl (by intro k u hk; match k, hk with | 0, hk => (simp at hk; subst hk; simp [Addr.add]) | 1, hk => (simp at hk; subst hk; simp [Addr.add]) | 2, hk => (simp at hk; subst hk; simp [Addr.add])) (by intro u hu; simp at hu; rcases hu with rfl | rfl | rfl <;> rfl) (by unfold maxLen; omega) (by omega) (by have := HB.out.size; simp; omega) ?_; intro v3 w4 hown3 hgrow3 _)
            have hB4 : Below w2.heap.size w2 w4 := Below.grown (HB.out.alloc HB.out.size _) hgrow3 (by have := HB.out.size; simp; omega) (fun q hq => (HO.out.lt q hq).1)
            have hown4 := hown3
            rw [← filC_one ⟨cur, mk, false⟩, ← filC_append, show acc.length + 1 = (acc ++ [(⟨cur, mk, false⟩ : Fn)]).length by simp] at hown4
            have HO4 := Hid.mk hown4
            have HB4 := Hid.mk hB4
            clear hown3 hown4 hB4 hgrow3
            go_roundw
            case rel =>
              refine ⟨cur + p, acc ++ [⟨cur, mk, false⟩], by omega, by omega, by simp; omega, by go_num, ?_, HO4, HB4⟩
              have := HACC.out
              rw [HNX.out] at this
              exact Hid.mk (by rw [List.append_assoc]; exact this)
            case measure => simp [intOf]; omega
        · have hz : ((cur : Int) % (2 * (p : Int)) == 0) = false := by rw [hzz, beq_eq_false_iff_ne]; omega
          have hC : grC cur high j = false := by
            unfold grC
            rw [← HP.out]
            simp [k1]
          have hpq := HGX.out j HC.out hC (by omega)
          rw [← HP.out] at hpq
          subst hpq
          clear hC hzz k1
          obtain ⟨mk, hmk⟩ : ∃ mk, mk = 2047 - (p - 1) := ⟨_, rfl⟩
          rw [← hmk] at HNX
          have hmi : (2047 : Int) - ((p : Int) - 1) = (mk : Int) := by omega
          clear hmk
          go_wp2_with (at_builtin; refine wpList_append_own _ rfl (.tmp 65) (.tmp 73) 22 rfl w2.heap.size 34 i0 (.agg #[.int .i64 0, .int .i64 0, .bool false]) 3 24 Tryd.underlying22 hi hz0 hz1 hz2 rfl (by decide) _ _ _ rfl (HO.out.alloc _) ⟨wr.heap.size, 0, none⟩ 1 1 [Value.int .i64 cur, Value.int .i64 mk, Value.bool false] rfl rfl (by intro k u hk; match k, hk with | 0, hk => (simp at hk; subst hk; simp [Addr.add]) | 1, hk => (simp at hk; subst hk; simp [Addr.add]) | 2, hk => (simp at hk; subst hk; simp [Addr.add])) (by intro u hu; simp at hu; rcases hu with rfl | rfl | rfl <;> rfl) (by unfold maxLen; omega) (by omega) (by have := HB.out.size; simp; omega) ?_; intro v3 w4 hown3 hgrow3 _)
          have hB4 : Below w2.heap.size w2 w4 := Below.grown (HB.out.alloc HB.out.size _) hgrow3 (by have := HB.out.size; simp; omega) (fun q hq => (HO.out.lt q hq).1)
          have hown4 := hown3
          rw [← filC_one ⟨cur, mk, false⟩, ← filC_append, show acc.length + 1 = (acc ++ [(⟨cur, mk, false⟩ : Fn)]).length by simp] at hown4
          have HO4 := Hid.mk hown4
          have HB4 := Hid.mk hB4
          clear hown3 hown4 hB4 hgrow3
          go_roundw
          case rel =>
            refine ⟨cur + p, acc ++ [⟨cur, mk, false⟩], by omega, by omega, by simp; omega, by go_num, ?_, HO4, HB4⟩
            have := HACC.out
            rw [HNX.out] at this
            exact Hid.mk (by rw [List.append_assoc]; exact this)
          case measure => simp [intOf]; omega
    · have hle : (high : Int) < (cur : Int) := by omega
      have HE := Hid.mk (rngN_end (lo := false) hlt)
      have hfin := HACC.out
      rw [HE.out, List.append_nil] at hfin
      rw [hfin] at HO
      obtain ⟨a2, cap2, hv2, hF2⟩ := fils_of HO.out
      rw [← HN.out] at hv2 hF2
      subst hv2
      have HEQ := Hid.mk (equalF_true _ a a2 N cap cap2 _ (HF2.out.kept HB.out) hF2)
      have HBB := Hid.mk (bl2 HB2.out HB.out)
      clear hfin hF2
      go_wp2_with fail
      refine HEQ.out.mono ?_
      rintro e w5 ⟨rfl, hb5⟩
      have HB5 := Hid.mk (bl2 HBB.out hb5)
      clear hb5
      go_wp2_with fail
      go_ret
      exact ⟨rfl, HB5.out⟩
set_option maxHeartbeats 4000000 in
set_option maxRecDepth 100000 in
theorem frb_true_a (low high : Int) (w : World) (hL : LastsAt w) (h0 : low < 0) (h : ¬ (0 ≤ low ∧ low ≤ high ∧ high ≤ (topN true : Int))) :
    Calls Tryd.prog 6 #[.int .i64 low, .int .i64 high, .bool true] w fun e w' => e = .returned (.bool true) ∧ Below w.heap.size w w' := by
  have HR := Hid.mk (ranges_bad low high true w hL h)
  have HFI := Hid.mk (fun W (hb : Below w.heap.size w W) => filtered_any W (hL.kept hb))
  clear hL h
  go_enter Tryd.func6, Tryd.ntmps6
  go_wp2_with fail
  refine HR.out.mono ?_
  rintro e w1 ⟨rfl, hb1⟩
  have HB1 := Hid.mk hb1
  clear hb1
  go_wp2_with fail
  refine (HFI.out _ HB1.out).mono ?_
  rintro e w2 ⟨rfl, hb2⟩
  have HB2 := Hid.mk (bl2 HB1.out hb2)
  clear hb2
  go_wp2_with fail
  refine (HFI.out _ HB2.out).mono ?_
  rintro e w3 ⟨rfl, hb3⟩
  have HB3 := Hid.mk (bl2 HB2.out hb3)
  clear hb3
  go_wp2_with fail
  go_ret
  exact ⟨rfl, HB3.out⟩
set_option maxHeartbeats 4000000 in
set_option maxRecDepth 100000 in
theorem frb_true_b (low high : Int) (w : World) (hL : LastsAt w) (h0 : 0 ≤ low) (h1 : (536870911 : Int) < high) (h : ¬ (0 ≤ low ∧ low ≤ high ∧ high ≤ (topN true : Int))) :
    Calls Tryd.prog 6 #[.int .i64 low, .int .i64 high, .bool true] w fun e w' => e = .returned (.bool true) ∧ Below w.heap.size w w' := by
  have HR := Hid.mk (ranges_bad low high true w hL h)
  have HFI := Hid.mk (fun W (hb : Below w.heap.size w W) => filtered_any W (hL.kept hb))
  clear hL h
  go_enter Tryd.func6, Tryd.ntmps6
  go_wp2_with fail
  refine HR.out.mono ?_
  rintro e w1 ⟨rfl, hb1⟩
  have HB1 := Hid.mk hb1
  clear hb1
  go_wp2_with fail
  refine (HFI.out _ HB1.out).mono ?_
  rintro e w2 ⟨rfl, hb2⟩
  have HB2 := Hid.mk (bl2 HB1.out hb2)
  clear hb2
  go_wp2_with fail
  refine (HFI.out _ HB2.out).mono ?_
  rintro e w3 ⟨rfl, hb3⟩
  have HB3 := Hid.mk (bl2 HB2.out hb3)
  clear hb3
  go_wp2_with fail
  go_ret
  exact ⟨rfl, HB3.out⟩
set_option maxHeartbeats 4000000 in
set_option maxRecDepth 100000 in
theorem frb_true_c (low high : Int) (w : World) (hL : LastsAt w) (h0 : 0 ≤ low) (h1 : high ≤ (536870911 : Int)) (h2 : high < low) (h : ¬ (0 ≤ low ∧ low ≤ high ∧ high ≤ (topN true : Int))) :
    Calls Tryd.prog 6 #[.int .i64 low, .int .i64 high, .bool true] w fun e w' => e = .returned (.bool true) ∧ Below w.heap.size w w' := by
  have HR := Hid.mk (ranges_bad low high true w hL h)
  have HFI := Hid.mk (fun W (hb : Below w.heap.size w W) => filtered_any W (hL.kept hb))
  clear hL h
  go_enter Tryd.func6, Tryd.ntmps6
  go_wp2_with fail
  refine HR.out.mono ?_
  rintro e w1 ⟨rfl, hb1⟩
  have HB1 := Hid.mk hb1
  clear hb1
  go_wp2_with fail
  refine (HFI.out _ HB1.out).mono ?_
  rintro e w2 ⟨rfl, hb2⟩
  have HB2 := Hid.mk (bl2 HB1.out hb2)
  clear hb2
  go_wp2_with fail
  refine (HFI.out _ HB2.out).mono ?_
  rintro e w3 ⟨rfl, hb3⟩
  have HB3 := Hid.mk (bl2 HB2.out hb3)
  clear hb3
  go_wp2_with fail
  go_ret
  exact ⟨rfl, HB3.out⟩
set_option maxHeartbeats 8000000 in
set_option maxRecDepth 100000 in
theorem frok_true (low high : Nat) (w : World) (hL : LastsAt w) (h : low ≤ high) (hh : high ≤ 536870911) :
    Calls Tryd.prog 6 #[.int .i64 low, .int .i64 high, .bool true] w fun e w' => e = .returned (.bool true) ∧ Below w.heap.size w w' := by
  obtain ⟨i0, hi, hz0, hz1, hz2⟩ := info_parts info_fil
  have HR := Hid.mk (ranges_ok low high true w hL h hh)
  have HFI := Hid.mk (fun W (hb : Below w.heap.size w W) => filtered_any W (hL.kept hb))
  have d0 : decide ((low : Int) < 0) = false := by simp
  have d1 : decide ((high : Int) < (low : Int)) = false := by simp; omega
  have d2 : decide ((536870911 : Int) < (high : Int)) = false := by simp; omega
  have d3 : decide (high < low) = false := by simp; omega
  have d4 : decide (536870911 < high) = false := by simp; omega
  have hh' : (high : Int) ≤ 536870911 := by omega
  have h' : (low : Int) ≤ (high : Int) := by omega
  clear hL
  go_enter Tryd.func6, Tryd.ntmps6
  go_wp2_with fail
  refine HR.out.mono ?_
  rintro e w1 ⟨v, rfl, hown, hb1⟩
  obtain ⟨a, cap, rfl, hF⟩ := fils_of hown
  obtain ⟨N, hN⟩ : ∃ N, N = (rngN true high low).length := ⟨_, rfl⟩
  rw [← hN] at hF ⊢
  have HN := Hid.mk hN
  have HF1 := Hid.mk hF
  have HB1 := Hid.mk hb1
  clear hb1 hF hown hN
  go_wp2_with fail
  refine (HFI.out _ HB1.out).mono ?_
  rintro e w2 ⟨rfl, hb2⟩
  have HB2 := Hid.mk (bl2 HB1.out hb2)
  have HF2 := Hid.mk (HF1.out.kept hb2)
  clear hb2 HF1 HB1 HR HFI
  go_wp2_with fail
  go_loopw [10, 0] (fun v s wr => ∃ (cur : Nat) (acc : List Fn), low ≤ cur ∧ cur ≤ high + 1 ∧ acc.length ≤ cur ∧ s = .int .i64 cur ∧ Hid (acc ++ rngN true high cur = rngN true high low) ∧ Hid (wr.ownsRow w2.heap.size 34 3 v acc.length (filC acc)) ∧ Hid (Below w2.heap.size w2 wr)) (fun _ s _ => high + 1 - (intOf s).toNat)
  case atStart => exact ⟨low, [], Nat.le_refl _, by omega, by simp, rfl, Hid.mk rfl, Hid.mk (World.ownsRow_nil _ _ _ _), Hid.mk (Below.refl _ _)⟩
  case round =>
    obtain ⟨cur, acc, hc1, hc2, hal, rfl, HACC, HO, HB⟩ := hrel
    obtain ⟨wz, hwz⟩ : ∃ wz, wz = wr := ⟨_, rfl⟩
    rw [← hwz] at HO HB ⊢
    clear hwz
    by_cases hlt : cur ≤ high
    · have hlt' : (cur : Int) ≤ (high : Int) := by omega
      obtain ⟨_, hg2⟩ := grX_spec hlt
      have hg1 := Nat.two_pow_pos (grX cur high)
      have HNX := Hid.mk (rngN_more (lo := true) hlt)
      have HGX : Hid (∀ j, (∀ i, i < j → grC cur high i = true) → grC cur high j = false → j ≤ 64 → 2 ^ j = 2 ^ grX cur high) := Hid.mk (fun j p1 p2 p3 => by rw [grX_at p1 p2 p3])
      rw [show topN true = 536870911 from rfl] at HNX
      generalize 2 ^ grX cur high = q at *
      go_wp2_with fail
      go_loopw [11] (fun n wr => ∃ j p : Nat, p = 2 ^ j ∧ p ≤ high + 1 ∧ n = .int .i64 (p : Int) ∧ Hid (∀ i, i < j → grC cur high i = true) ∧ wr = wz) (fun n _ => high + 1 - (intOf n).toNat)
      case atStart => exact ⟨0, 1, rfl, by omega, rfl, Hid.mk (fun i h => absurd h (Nat.not_lt_zero _)), rfl⟩
      case round =>
        obtain ⟨j, p, hp, hpb, rfl, HC, hwr⟩ := hrel
        subst hwr
        have hp1 : 1 ≤ p := by rw [hp]; exact Nat.two_pow_pos j
        have hj : j ≤ 30 := pow_le_of (by omega)
        have HP := Hid.mk hp
        clear hp
        have hzz : (cur : Int) % (2 * (p : Int)) = ((cur % (2 * p) : Nat) : Int) := by simp
        by_cases k1 : cur % (2 * p) = 0
        · have hz : ((cur : Int) % (2 * (p : Int)) == 0) = true := by rw [hzz, k1]; rfl
          by_cases k2 : cur + 2 * p ≤ high + 1
          · have hle : (cur : Int) + 2 * (p : Int) - 1 ≤ (high : Int) := by omega
            have hC : grC cur high j = true := by
              unfold grC
              rw [← HP.out]
              simp [k1, k2]
            have HCC := Hid.mk hC
            clear hC hzz k1
            go_wp2_with fail
            go_roundw
            case rel =>
              refine ⟨j + 1, 2 * p, by rw [Nat.pow_succ, ← HP.out]; omega, by omega, by congr 1; omega, Hid.mk fun i hi => ?_, trivial⟩
              by_cases e : i = j
              · subst e; exact HCC.out
              · exact HC.out i (by omega)
            case measure => simp [intOf]; omega
          · have hle : (high : Int) < (cur : Int) + 2 * (p : Int) - 1 := by omega
            have hC : grC cur high j = false := by
              unfold grC
              rw [← HP.out]
              simp; omega
            have hpq := HGX.out j HC.out hC (by omega)
            rw [← HP.out] at hpq
            subst hpq
            clear hC hzz k1
            obtain ⟨mk, hmk⟩ : ∃ mk, mk = 536870911 - (p - 1) := ⟨_, rfl⟩
            rw [← hmk] at HNX
            have hmi : (536870911 : Int) - ((p : Int) - 1) = (mk : Int) := by omega
            clear hmk
            go_wp2_with (at_builtin; refine wpList_append_own _ rfl (.tmp 65) (.tmp 73) 22 rfl w2.heap.size 34 i0 (.agg #[.int .i64 0, .int .i64 0, .bool false]) 3 24 Tryd.underlying22 hi hz0 hz1 hz2 rfl (by decide) _ _ _ rfl (HO.out.alloc _) ⟨wr.heap.size, 0, none⟩ 1 1 [Value.int .i64 cur, Value.int .i64 mk, Value.bool true] rfl rfl (by intro k u hk; match k, hk with | 0, hk => (simp at hk; subst hk; simp [Addr.add]) | 1, hk => (simp at hk; subst hk; simp [Addr.add]) | 2, hk => (simp at hk; subst hk; simp [Addr.add])) (by intro u hu; simp at hu; rcases hu with rfl | rfl | rfl <;> rfl) (by unfold maxLen; omega) (by omega) (by have := HB.out.size; simp; omega) ?_; intro v3 w4 hown3 hgrow3 _)
            have hB4 : Below w2.heap.size w2 w4 := Below.grown (HB.out.alloc HB.out.size _) hgrow3 (by have := HB.out.size; simp; omega) (fun q hq => (HO.out.lt q hq).1)
            have hown4 := hown3
            rw [← filC_one ⟨cur, mk, true⟩, ← filC_append, show acc.length + 1 = (acc ++ [(⟨cur, mk, true⟩ : Fn)]).length by simp] at hown4
            have HO4 := Hid.mk hown4
            have HB4 := Hid.mk hB4
            clear hown3 hown4 hB4 hgrow3
            go_roundw
            case rel =>
              refine ⟨cur + p, acc ++ [⟨cur, mk, true⟩], by omega, by omega, by simp; omega, by go_num, ?_, HO4, HB4⟩
              have := HACC.out
              rw [HNX.out] at this
              exact Hid.mk (by rw [List.append_assoc]; exact this)
            case measure => simp [intOf]; omega
        · have hz : ((cur : Int) % (2 * (p : Int)) == 0) = false := by rw [hzz, beq_eq_false_iff_ne]; omega
          have hC : grC cur high j = false := by
            unfold grC
            rw [← HP.out]
            simp [k1]
          have hpq := HGX.out j HC.out hC (by omega)
          rw [← HP.out] at hpq
          subst hpq
          clear hC hzz k1
          obtain ⟨mk, hmk⟩ : ∃ mk, mk = 536870911 - (p - 1) := ⟨_, rfl⟩
          rw [← hmk] at HNX
          have hmi : (536870911 : Int) - ((p : Int) - 1) = (mk : Int) := by omega
          clear hmk
          go_wp2_with (at_builtin; refine wpList_append_own _ rfl (.tmp 65) (.tmp 73) 22 rfl w2.heap.size 34 i0 (.agg #[.int .i64 0, .int .i64 0, .bool false]) 3 24 Tryd.underlying22 hi hz0 hz1 hz2 rfl (by decide) _ _ _ rfl (HO.out.alloc _) ⟨wr.heap.size, 0, none⟩ 1 1 [Value.int .i64 cur, Value.int .i64 mk, Value.bool true] rfl rfl (by intro k u hk; match k, hk with | 0, hk => (simp at hk; subst hk; simp [Addr.add]) | 1, hk => (simp at hk; subst hk; simp [Addr.add]) | 2, hk => (simp at hk; subst hk; simp [Addr.add])) (by intro u hu; simp at hu; rcases hu with rfl | rfl | rfl <;> rfl) (by unfold maxLen; omega) (by omega) (by have := HB.out.size; simp; omega) ?_; intro v3 w4 hown3 hgrow3 _)
          have hB4 : Below w2.heap.size w2 w4 := Below.grown (HB.out.alloc HB.out.size _) hgrow3 (by have := HB.out.size; simp; omega) (fun q hq => (HO.out.lt q hq).1)
          have hown4 := hown3
          rw [← filC_one ⟨cur, mk, true⟩, ← filC_append, show acc.length + 1 = (acc ++ [(⟨cur, mk, true⟩ : Fn)]).length by simp] at hown4
          have HO4 := Hid.mk hown4
          have HB4 := Hid.mk hB4
          clear hown3 hown4 hB4 hgrow3
          go_roundw
          case rel =>
            refine ⟨cur + p, acc ++ [⟨cur, mk, true⟩], by omega, by omega, by simp; omega, by go_num, ?_, HO4, HB4⟩
            have := HACC.out
            rw [HNX.out] at this
            exact Hid.mk (by rw [List.append_assoc]; exact this)
          case measure => simp [intOf]; omega
    · have hle : (high : Int) < (cur : Int) := by omega
      have HE := Hid.mk (rngN_end (lo := true) hlt)
      have hfin := HACC.out
      rw [HE.out, List.append_nil] at hfin
      rw [hfin] at HO
      obtain ⟨a2, cap2, hv2, hF2⟩ := fils_of HO.out
      rw [← HN.out] at hv2 hF2
      subst hv2
      have HEQ := Hid.mk (equalF_true _ a a2 N cap cap2 _ (HF2.out.kept HB.out) hF2)
      have HBB := Hid.mk (bl2 HB2.out HB.out)
      clear hfin hF2
      go_wp2_with fail
      refine HEQ.out.mono ?_
      rintro e w5 ⟨rfl, hb5⟩
      have HB5 := Hid.mk (bl2 HBB.out hb5)
      clear hb5
      go_wp2_with fail
      go_ret
      exact ⟨rfl, HB5.out⟩
theorem franges_any (low high : Int) (lo : Bool) (w : World) (hL : LastsAt w) :
    Calls Tryd.prog 6 #[.int .i64 low, .int .i64 high, .bool lo] w fun e w' => e = .returned (.bool true) ∧ Below w.heap.size w w' := by
  have ht : topN true = 536870911 := rfl
  have hf : topN false = 2047 := rfl
  rcases Int.lt_or_le low 0 with h0 | h0
  · cases lo
    · exact frb_false_a low high w hL h0 (by omega)
    · exact frb_true_a low high w hL h0 (by omega)
  · rcases Int.lt_or_le (topN lo : Int) high with h1 | h1
    · cases lo
      · rw [hf] at h1
        exact frb_false_b low high w hL h0 h1 (by omega)
      · rw [ht] at h1
        exact frb_true_b low high w hL h0 h1 (by omega)
    · rcases Int.lt_or_le high low with h2 | h2
      · cases lo
        · rw [hf] at h1
          exact frb_false_c low high w hL h0 h1 h2 (by omega)
        · rw [ht] at h1
          exact frb_true_c low high w hL h0 h1 h2 (by omega)
      · obtain ⟨a, rfl⟩ := Int.eq_ofNat_of_zero_le h0
        obtain ⟨b, rfl⟩ := Int.eq_ofNat_of_zero_le (Int.le_trans h0 h2)
        cases lo
        · rw [hf] at h1
          exact frok_false a b w hL (by omega) (by omega)
        · rw [ht] at h1
          exact frok_true a b w hL (by omega) (by omega)
end Bw
end Go.Proofs.YtfmjhgggoklaoaaDoor
