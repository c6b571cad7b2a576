/- What route.Check answers. -/
import Derived.Test.YtapjiopnjfldhaaDoorRtCheck
import Derived.BigQuiet
import Derived.Lib.QuietBelow
namespace Go.Proofs.YtapjiopnjfldhaaDoor
open Go.ChangeShapes Go.WideShapes Go.ChangeAt Go.RowKit
namespace Bw
set_option linter.unusedVariables false
theorem awG2 (w : World) (o : Obj) : Below w.heap.size w (w.alloc o) := (Below.refl _ _).alloc (Nat.le_refl _) _
theorem mlen {a : Nat} (h : a ≤ maxLen) : (a : Int) ≤ 9223372036854775807 := by unfold maxLen at h; omega
set_option maxHeartbeats 4000000 in
set_option maxRecDepth 100000 in
theorem gcheck_any (a : Option Addr) (n c : Nat) (b : Option Addr) (m d : Nat) (rs : List Rt) (ts : List Int) (w : World) (hR : IsRts w a n c rs) (hT : IsNums w b m d ts) (hL : LastsAt w) :
    Calls Tryd.prog 11 #[gaV a n c b m d] w fun e w' => e = .returned (.int .i64 (chkG rs ts)) ∧ Below w.heap.size w w' := by
  have hb0 := awB w (gaC a n c b m d)
  have HB0 := Hid.mk hb0
  have hn63 := mlen (Nat.le_trans hR.le hR.max)
  have hm63 := mlen (Nat.le_trans hT.le hT.max)
  have HG := Hid.mk (GaAt.new w a n c b m d)
  have HR := Hid.mk (hR.kept hb0)
  have HT := Hid.mk (hT.kept hb0)
  have HL := Hid.mk (hL.kept hb0)
  have hrl := hR.len
  have htl := hT.len
  unfold chkG
  rw [hrl, htl]
  unfold gaC at *
  unfold gaV
  clear hR hT hL hb0
  by_cases h20 : 20 < n
  · rw [if_pos h20]
    have h20' : (20 : Int) < (n : Int) := by omega
    go_enter Tryd.func11, Tryd.ntmps11
    go_wp2_with fail
    go_ret
    exact ⟨rfl, HB0.out⟩
  rw [if_neg h20]
  have h20' : ¬ ((20 : Int) < (n : Int)) := by omega
  by_cases hmn : m ≠ n
  · rw [if_pos hmn]
    have hmn' : ((m : Int) != (n : Int)) = true := by simp; omega
    go_enter Tryd.func11, Tryd.ntmps11
    go_wp2_with fail
    go_ret
    exact ⟨rfl, HB0.out⟩
  rw [if_neg hmn]
  obtain rfl : m = n := by omega
  clear hmn h20
  obtain ⟨Z, hZ⟩ : ∃ Z : Int, Z = if allR rs ts = true then 0 else 3 := ⟨_, rfl⟩
  rw [← hZ]
  have HZE := Hid.mk hZ
  clear hZ
  obtain ⟨k0, k1⟩ := HG.out.cells
  go_enter Tryd.func11, Tryd.ntmps11
  go_wp2_with fail
  generalize w.alloc (.cells #[.slice a m c, .slice b m d] 25) = W0 at *
  go_loopw [22] (fun i wr => ∃ k : Nat, k ≤ m ∧ i = .int .i64 k ∧ Hid (∀ j, j < k → okR (rs.getD j noR) (ts.getD j 0) = true) ∧ Hid (Below W0.heap.size W0 wr)) (fun i _ => m - (intOf i).toNat)
  case atStart => exact ⟨0, Nat.zero_le _, rfl, Hid.mk (fun j hj => absurd hj (Nat.not_lt_zero _)), Hid.mk (Below.refl _ _)⟩
  case round =>
    obtain ⟨k, hk, rfl, HA, HB⟩ := hrel
    clear k0 k1
    by_cases hlt : k < m
    · have hlt' : (k : Int) < (m : Int) := by omega
      obtain ⟨x, rfl⟩ := HR.out.some hlt
      obtain ⟨z, rfl⟩ := HT.out.some hlt
      obtain ⟨c0, c1, c2, c3, c4, c5, c6⟩ := (HR.out.kept HB.out).cell x rfl k hlt
      have c7 := (HT.out.kept HB.out).cell z rfl k hlt
      obtain ⟨r, hr⟩ : ∃ r, r = rs.getD k noR := ⟨_, rfl⟩
      obtain ⟨t, ht⟩ : ∃ t, t = ts.getD k 0 := ⟨_, rfl⟩
      rw [← hr] at c0 c1 c2 c3 c4 c5 c6
      rw [← ht] at c7
      have hb1 := awB wr (rtC r)
      have HB1 := Hid.mk (bl2 HB.out hb1)
      have HK := Hid.mk ((HG.out.kept HB.out).kept hb1)
      have HV := Hid.mk (RtAt.new wr r)
      have HZ := Hid.mk (cell_kept hb1 c7)
      have HL1 := Hid.mk ((HL.out.kept HB.out).kept hb1)
      have HQ := Hid.mk (show rtE r t = if okR (rs.getD k noR) (ts.getD k 0) = true then 0 else 3 by rw [hr, ht]; rfl)
      clear hr ht hb1 c7
      obtain ⟨fr, tb, ⟨fw, fm, flo⟩, add, ev⟩ := r
      unfold rtC at HB1 HK HV HZ HL1
      simp only at c0 c1 c2 c3 c4 c5 c6 HB1 HK HV HZ HL1
      go_wp2_with fail
      generalize wr.alloc (.cells #[.int .i64 fr, .int .i64 tb, .int .i64 fw, .int .i64 fm, .bool flo, .int .i64 add, .int .i64 ev] 45) = W1 at *
      have rk := fun d os => (HK.out.kept (below_regrown W1 d os)).cells.2
      have r0 := fun d os => cell_kept (below_regrown W1 d os) HV.out.c0
      have r1 := fun d os => cell_kept (below_regrown W1 d os) HV.out.c1
      have r2 := fun d os => cell_kept (below_regrown W1 d os) HV.out.c2
      have r3 := fun d os => cell_kept (below_regrown W1 d os) HV.out.c3
      have r4 := fun d os => cell_kept (below_regrown W1 d os) HV.out.c4
      have r5 := fun d os => cell_kept (below_regrown W1 d os) HV.out.c5
      have r6 := fun d os => cell_kept (below_regrown W1 d os) HV.out.c6
      have rz := fun d os => cell_kept (below_regrown W1 d os) HZ.out
      have HC := Hid.mk (fun d os => checkRoute_any ⟨fr, tb, ⟨fw, fm, flo⟩, add, ev⟩ t _ (HL1.out.kept (below_regrown W1 d os)))
      unfold Rt.val at HC
      simp only at r0 r1 r2 r3 r4 r5 r6
      refine wp_region_quiet_below (by kernel_rfl) (by kernel_rfl) ?_
      repeat (go_big_quiet_step ((go_at_call 34; with_reducible_and_instances exact Calls.regrown_of (HC.out _ _))))
      refine wpQuiet_nil ?_
      intro _ hw'
      obtain ⟨⟨dq, osq⟩, hw''⟩ := hw'
      have hbq := below_regrown W1 dq osq
      rw [hw'']
      rw [HQ.out]
      have HB2 := Hid.mk (bl2 HB1.out hbq)
      clear rk r0 r1 r2 r3 r4 r5 r6 rz HC hw'' hbq c0 c1 c2 c3 c4 c5 c6
      generalize Go.Sort.grow (redrawn W1 dq) osq = W2 at *
      cases hq : okR (rs.getD k noR) (ts.getD k 0)
      · have HN := Hid.mk (allR_no (by rw [hrl]; exact hlt) hq)
        rw [if_neg (by simp)]
        clear hq
        go_wp2_with fail
        go_ret
        exact ⟨by rw [HZE.out, HN.out]; rfl, bl2 HB0.out HB2.out⟩
      · rw [if_pos rfl]
        have HQ2 := Hid.mk hq
        clear hq
        go_wp2_with fail
        go_roundw
        case rel =>
          refine ⟨k + 1, by omega, by go_num, Hid.mk fun j hj => ?_, HB2⟩
          by_cases e : j = k
          · subst e; exact HQ2.out
          · exact HA.out j (by omega)
        case measure => simp [intOf]; omega
    · obtain rfl : k = m := by omega
      have HN := Hid.mk (allR_yes (rs := rs) (ts := ts) (by rw [hrl]; exact HA.out))
      go_wp2_with fail
      go_ret
      exact ⟨by rw [HZE.out, HN.out]; rfl, bl2 HB0.out HB.out⟩
end Bw
end Go.Proofs.YtapjiopnjfldhaaDoor
