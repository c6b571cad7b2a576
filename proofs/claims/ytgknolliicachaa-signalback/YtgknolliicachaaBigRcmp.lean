/- omnibusbig's fractions: Cmp of two that are alike. -/
import Derived.Test.YtgknolliicachaaBigNorm
import Derived.Test.YtgknolliicachaaBigCmp
namespace Go.Proofs.Ytgknolliicachaa
open Go.ChangeShapes Go.WideShapes Go.ChangeAt Go.RowKit Go.Sort
namespace Ww
open Wm Sm
open Bw (Tch bl2 cell_kept)
theorem cmpI_same (x : Int) : cmpI x x = 0 := by unfold cmpI; rw [if_neg (by omega), if_neg (by omega)]
set_option maxHeartbeats 8000000 in
set_option maxRecDepth 100000 in
theorem rcmp_same (gx gy : Nat) (a b : Int) (w : World) (hx : RatAt w gx a b) (hy : RatAt w gy a b) (hb : 0 < b) (hb2 : b ≤ 4611686018427387903) (ha1 : -4611686018427387903 ≤ a) (ha2 : a ≤ 4611686018427387903) :
    Calls Try.prog 10 #[.pointer (some ⟨gx, 0, none⟩), .pointer (some ⟨gy, 0, none⟩)] w fun e w' => e = .returned (.int .i64 0) ∧ Below w.heap.size w w' := by
  have HD1 := Hid.mk (den_z gx a b w hx (by omega))
  have HD2 := Hid.mk (den_z gy a b w hy (by omega))
  have hC1 := icmp_z gx 2 gy 2 b b w hx.den hy.den (by omega) hb2 (by omega) hb2
  rw [cmpI_same] at hC1
  have hC2 := fun W (h : Below w.heap.size w W) => icmp_z gx 0 gy 0 a a W (hx.num.kept h) (hy.num.kept h) ha1 ha2 ha1 ha2
  simp only [cmpI_same] at hC2
  have HC1 := Hid.mk hC1
  have HC2 := Hid.mk hC2
  clear hx hy hb hb2 ha1 ha2 hC1 hC2
  go_enter Try.func10, Try.ntmps10
  go_wp2_with fail
  with_reducible refine HD1.out.mono ?_
  rintro e w1 ⟨rfl, hw1⟩
  obtain rfl := hw1.symm
  go_wp2_with fail
  with_reducible refine HD2.out.mono ?_
  rintro e w1 ⟨rfl, hw1⟩
  obtain rfl := hw1.symm
  go_wp2_with fail
  with_reducible refine HC1.out.mono ?_
  rintro e w1 ⟨rfl, hb1⟩
  have HB1 := Hid.mk hb1
  clear hb1
  go_wp2_with fail
  refine wp_region_quiet_below (by kernel_rfl) (by kernel_rfl) ?_
  repeat (go_big_quiet_step ((go_at_call 24; exact Calls.regrown_of (HC2.out _ (bl2 HB1.out (below_regrown w1 _ _))))))
  refine wpQuiet_nil ?_
  intro _ hw'
  obtain ⟨⟨dq, osq⟩, hw''⟩ := hw'
  have hbq := below_regrown w1 dq osq
  rw [hw'']
  generalize grow (redrawn w1 dq) osq = W2 at *
  have HB2 := Hid.mk (bl2 HB1.out hbq)
  clear hw'' hbq
  go_wp2_with fail
  go_ret
  exact ⟨rfl, HB2.out⟩
end Ww
end Go.Proofs.Ytgknolliicachaa
