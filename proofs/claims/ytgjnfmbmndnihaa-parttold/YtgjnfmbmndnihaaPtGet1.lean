/- What package part's getFirst answers. -/
import Derived.Test.YtgjnfmbmndnihaaPtOne
import Derived.BigQuiet
import Derived.Deep.DeepCutAuto
namespace Go.Proofs.Ytgjnfmbmndnihaa
open Go.ChangeShapes Go.WideShapes Go.ChangeAt Go.RowKit
namespace Bw
open Bm
set_option linter.unusedVariables false
theorem first_res (tmps : Array Value) (w : World) (g : Nat) (cs : Array Value) (x y : Value) (hp : tmps.getD 4 undef = .pointer (some ⟨g, 0, none⟩)) (hx : tmps.getD 5 undef = x) (hy : tmps.getD 6 undef = y) (h : w.heap[g]? = some (.cells cs 44 (0, 0))) (hs : cs.size = 5) :
    (results Try.f37 tmps).run Try.prog w = .ok (.tuple #[.agg cs, x, y]) w := by
  have hl := run_loadVar_row (P := Try.prog) w g 44 44 cs (0, 0) _ h Try.underlying44 rfl (by rw [gt_i, hs])
  have hp' : tmps[4]?.getD undef = .pointer (some ⟨g, 0, none⟩) := by simpa using hp
  have hx' : tmps[5]?.getD undef = x := by simpa using hx
  have hy' : tmps[6]?.getD undef = y := by simpa using hy
  simp [results, hp', hx', hy', asAddr, hl]
theorem add2P (p : Addr) : p.add 2 = ⟨p.block, p.off + 2, none⟩ := by unfold Addr.add; simp
theorem or8_row : ((List.range 16).all fun k => (List.range 256).all fun n => (bits .or .i64 ((k : Int) * 256) (n : Int) == ((k * 256 + n : Nat) : Int))) = true := by kernel_rfl
theorem or8_op {k n : Nat} (hk : k < 16) (hn : n < 256) : bits .or .i64 ((k : Int) * 256) (n : Int) = ((k * 256 + n : Nat) : Int) :=
  eq_of_beq (List.all_eq_true.1 (List.all_eq_true.1 or8_row k (List.mem_range.2 hk)) n (List.mem_range.2 hn))
set_option maxHeartbeats 4000000 in
set_option maxRecDepth 100000 in
theorem first_len (want : Int) (a : Option Addr) (n cap : Nat) (next block left : Int) (y : Addr) (m mc : Nat) (w : World) (hm : m ≤ 8) (hm1 : 1 ≤ m) (h8 : m ≠ 8) :
    Calls Try.prog 37 #[gtV want a n cap next block left, .slice (some y) m mc] w fun e w' => e = .returned (.tuple #[gtV 0 none 0 0 0 0 0, .slice none 0 0, .int .i64 4]) ∧ Below w.heap.size w w' := by
  obtain ⟨hA, hZ, hB⟩ := two5 w 44 (.int .i64 want) (.slice a n cap) (.int .i64 next) (.int .i64 block) (.int .i64 left) (.int .i64 0) (.slice none 0 0) (.int .i64 0) (.int .i64 0) (.int .i64 0)
  have HA := Hid.mk hA
  have HZ := Hid.mk hZ
  have HB := Hid.mk hB
  have h8' : ((m : Int) != 8) = true := by simp; omega
  clear h8
  clear hA hZ hB
  unfold gtV
  go_enter Try.func37, Try.ntmps37
  go_wp2_with fail
  refine bodyPost_ret (first_res _ _ (w.heap.size + 1) _ _ _ rfl rfl rfl HZ.out rfl) rfl ?_
  exact ⟨rfl, HB.out⟩
set_option maxHeartbeats 4000000 in
set_option maxRecDepth 100000 in
theorem first_few (want : Int) (a : Option Addr) (n cap : Nat) (next block left : Int) (y : Addr) (m mc : Nat) (w : World) (hm : m ≤ 8) (hm1 : 1 ≤ m) (c0 c1 : Nat) (hc0 : c0 < 256) (hc1 : c1 < 256) (hy0 : w.cell? y = some (.int .u8 (c0 : Int))) (hy1 : w.cell? ⟨y.block, y.off + 1, none⟩ = some (.int .u8 (c1 : Int))) (h8 : m = 8) (S : Nat) (hS : S = c0 % 16 * 256 + c1) (h7 : S ≤ 7) :
    Calls Try.prog 37 #[gtV want a n cap next block left, .slice (some y) m mc] w fun e w' => e = .returned (.tuple #[gtV 0 none 0 0 0 0 0, .slice none 0 0, .int .i64 4]) ∧ Below w.heap.size w w' := by
  obtain ⟨hA, hZ, hB⟩ := two5 w 44 (.int .i64 want) (.slice a n cap) (.int .i64 next) (.int .i64 block) (.int .i64 left) (.int .i64 0) (.slice none 0 0) (.int .i64 0) (.int .i64 0) (.int .i64 0)
  have HA := Hid.mk hA
  have HZ := Hid.mk hZ
  have HB := Hid.mk hB
  subst h8
  have HLO := Hid.mk (fun W (h : Below w.heap.size w W) => lower_any y 8 mc c0 W (by omega) hc0 (cell_kept h hy0))
  have hor := or8_op (show c0 % 16 < 16 by omega) hc1
  rw [← hS] at hor
  obtain ⟨r, hr⟩ : ∃ r, r = c0 % 16 := ⟨_, rfl⟩
  rw [← hr] at HLO hor
  have hr15 : (r : Int) ≤ 15 := by omega
  have hc1' : (c1 : Int) ≤ 255 := by omega
  have hS5 : (S : Int) ≤ 4095 := by omega
  have HY1 := Hid.mk hy1
  clear hr hy0 hy1 hS hm
  have h7' : (S : Int) ≤ 7 := by omega
  clear hA hZ hB
  unfold gtV
  go_enter Try.func37, Try.ntmps37
  go_wp2_with fail
  have d1 := cell_kept HB.out HY1.out
  generalize ((w.alloc (.cells #[.int .i64 want, .slice a n cap, .int .i64 next, .int .i64 block, .int .i64 left] 44)).alloc (.cells #[.int .i64 0, .slice none 0 0, .int .i64 0, .int .i64 0, .int .i64 0] 44)) = W0 at *
  go_quiet (((go_at_call 46; refine Calls.quiet_of_same (HLO.out _ (drP HB.out _)))))
  have hbq : Below W0.heap.size W0 (W0.drewN nq) := drP (Below.refl _ _) nq
  have HA1 := Hid.mk (HA.out.kept hbq)
  have HZ1 := Hid.mk (HZ.out.kept hbq)
  have HB1 := Hid.mk (bl2 HB.out hbq)
  generalize W0.drewN nq = W1 at *
  clear hbq HA HZ HB d1 HY1 HLO hor
  obtain ⟨⟨z0, z1, z2, z3, z4⟩, ⟨y0, y1, y2, y3, y4⟩, ⟨p1, q1⟩, ⟨p2, q2⟩, ⟨p3, q3⟩, ⟨p4, q4⟩, hSX⟩ := HZ1.out.ready (.int .i64 0) (.slice none 0 0) (.int .i64 0) (.int .i64 0) (.int .i64 0)
  have HSX := Hid.mk hSX
  clear hSX
  go_wp2_with fail
  refine bodyPost_ret (first_res _ _ (w.heap.size + 1) _ _ _ rfl rfl rfl HSX.out rfl) rfl ?_
  exact ⟨rfl, set5_below HB1.out (Nat.le_succ _) _ _ _ _ _⟩
set_option maxHeartbeats 4000000 in
set_option maxRecDepth 100000 in
theorem first_full (want : Int) (a : Option Addr) (n cap : Nat) (next block left : Int) (y : Addr) (m mc : Nat) (w : World) (hm : m ≤ 8) (hm1 : 1 ≤ m) (c0 c1 : Nat) (hc0 : c0 < 256) (hc1 : c1 < 256) (hy0 : w.cell? y = some (.int .u8 (c0 : Int))) (hy1 : w.cell? ⟨y.block, y.off + 1, none⟩ = some (.int .u8 (c1 : Int))) (h8 : m = 8) (S : Nat) (hS : S = c0 % 16 * 256 + c1) (h7 : 300 < S) :
    Calls Try.prog 37 #[gtV want a n cap next block left, .slice (some y) m mc] w fun e w' => ∃ g c, e = .returned (.tuple #[gtV 0 none 0 0 0 block 0, .slice (some ⟨g, 0, none⟩) 3 c, .int .i64 0]) ∧ FB w w' (some ⟨g, 0, none⟩) 3 c [50, 0, 0] ∧ Below w.heap.size w w' := by
  obtain ⟨hA, hZ, hB⟩ := two5 w 44 (.int .i64 want) (.slice a n cap) (.int .i64 next) (.int .i64 block) (.int .i64 left) (.int .i64 0) (.slice none 0 0) (.int .i64 0) (.int .i64 0) (.int .i64 0)
  have HA := Hid.mk hA
  have HZ := Hid.mk hZ
  have HB := Hid.mk hB
  subst h8
  have HLO := Hid.mk (fun W (h : Below w.heap.size w W) => lower_any y 8 mc c0 W (by omega) hc0 (cell_kept h hy0))
  have hor := or8_op (show c0 % 16 < 16 by omega) hc1
  rw [← hS] at hor
  obtain ⟨r, hr⟩ : ∃ r, r = c0 % 16 := ⟨_, rfl⟩
  rw [← hr] at HLO hor
  have hr15 : (r : Int) ≤ 15 := by omega
  have hc1' : (c1 : Int) ≤ 255 := by omega
  have hS5 : (S : Int) ≤ 4095 := by omega
  have HY1 := Hid.mk hy1
  clear hr hy0 hy1 hS hm
  have h7' : ¬ ((S : Int) ≤ 7) := by omega
  have h8' : (300 : Int) < (S : Int) := by omega
  have HID := Hid.mk (fun W => idle_any want a n cap next block left W)
  have HPN : Hid (∀ W : World, Calls Try.prog 42 #[.slice none 0 0, .slice (some ⟨W.heap.size, 0, none⟩) 3 3] (W.alloc (.cells #[.int .u8 50, .int .u8 0, .int .u8 0] 5)) fun e w' => ∃ g c, e = .returned (.slice (some ⟨g, 0, none⟩) 3 c) ∧ (W.alloc (.cells #[.int .u8 50, .int .u8 0, .int .u8 0] 5)).heap.size ≤ g ∧ IsBytes w' (some ⟨g, 0, none⟩) 3 c [50, 0, 0] ∧ Below (W.alloc (.cells #[.int .u8 50, .int .u8 0, .int .u8 0] 5)).heap.size (W.alloc (.cells #[.int .u8 50, .int .u8 0, .int .u8 0] 5)) w') := Hid.mk (fun W => partOf_nil ⟨W.heap.size, 0, none⟩ 3 3 [50, 0, 0] _ (isBytes_made W [50, 0, 0] (by decide)) (by decide))
  unfold gtV at HID
  clear hA hZ hB
  unfold gtV
  go_enter Try.func37, Try.ntmps37
  go_wp2_with fail
  have d1 := cell_kept HB.out HY1.out
  generalize ((w.alloc (.cells #[.int .i64 want, .slice a n cap, .int .i64 next, .int .i64 block, .int .i64 left] 44)).alloc (.cells #[.int .i64 0, .slice none 0 0, .int .i64 0, .int .i64 0, .int .i64 0] 44)) = W0 at *
  go_quiet (((go_at_call 46; refine Calls.quiet_of_same (HLO.out _ (drP HB.out _)))))
  have hbq : Below W0.heap.size W0 (W0.drewN nq) := drP (Below.refl _ _) nq
  have HA1 := Hid.mk (HA.out.kept hbq)
  have HZ1 := Hid.mk (HZ.out.kept hbq)
  have HB1 := Hid.mk (bl2 HB.out hbq)
  generalize W0.drewN nq = W1 at *
  clear hbq HA HZ HB d1 HY1 HLO hor
  obtain ⟨a0, a1, a2, a3, a4⟩ := HA1.out.cells
  go_wp2_with fail
  refine (HID.out _).mono ?_
  rintro e w5 ⟨rfl, hb5⟩
  have HZ5 := Hid.mk (HZ1.out.kept hb5)
  have HB5 := Hid.mk (bl2 HB1.out hb5)
  clear a0 a1 a2 a3 a4 hb5 HA1 HZ1 HB1 HID
  go_wp2_with fail
  with_reducible refine (HPN.out _).mono ?_
  rintro e w6 ⟨g, c, rfl, hg, hD6, hb6⟩
  have hb7 := bl2 (awG w5 (.cells #[.int .u8 50, .int .u8 0, .int .u8 0] 5)) hb6
  have HB6 := Hid.mk (bl2 HB5.out hb7)
  have HD6 := Hid.mk hD6
  have HG : Hid (w.heap.size + 1 < g) := Hid.mk (Nat.lt_of_lt_of_le HZ5.out.lt (Nat.le_trans (awG w5 (.cells #[.int .u8 50, .int .u8 0, .int .u8 0] 5)).size hg))
  obtain ⟨⟨z0, z1, z2, z3, z4⟩, ⟨y0, y1, y2, y3, y4⟩, ⟨p1, q1⟩, ⟨p2, q2⟩, ⟨p3, q3⟩, ⟨p4, q4⟩, hSX⟩ := (HZ5.out.kept hb7).ready (.int .i64 0) (.slice none 0 0) (.int .i64 0) (.int .i64 block) (.int .i64 0)
  have HSX := Hid.mk hSX
  clear hSX hg hD6 hb6 hb7 HB5 HZ5 HPN
  go_wp2_with fail
  refine bodyPost_ret (first_res _ _ (w.heap.size + 1) _ _ _ rfl rfl rfl HSX.out rfl) rfl ?_
  exact ⟨g, c, rfl, ⟨isBytes_set5 HD6.out (by have := HG.out; simp; omega) _ _ _ _ _, fun q hq => by cases hq; have := HG.out; simp; omega⟩, set5_below HB6.out (Nat.le_succ _) _ _ _ _ _⟩
set_option maxHeartbeats 4000000 in
set_option maxRecDepth 100000 in
theorem first_ok (want : Int) (a : Option Addr) (n cap : Nat) (next block left : Int) (y : Addr) (m mc : Nat) (w : World) (hm : m ≤ 8) (hm1 : 1 ≤ m) (c0 c1 : Nat) (hc0 : c0 < 256) (hc1 : c1 < 256) (hy0 : w.cell? y = some (.int .u8 (c0 : Int))) (hy1 : w.cell? ⟨y.block, y.off + 1, none⟩ = some (.int .u8 (c1 : Int))) (h8 : m = 8) (S : Nat) (hS : S = c0 % 16 * 256 + c1) (h7 : 7 < S) (h30 : S ≤ 300) (bl : Nat) (hbl : block = (bl : Int)) (hbl5 : bl ≤ 255) (p : List UInt8) (hD : IsBytes w (some y) m mc p) :
    Calls Try.prog 37 #[gtV want a n cap next block left, .slice (some y) m mc] w fun e w' => ∃ gd cd g c, e = .returned (.tuple #[gtV (S : Int) (some ⟨gd, 0, none⟩) 6 cd 1 block block, .slice (some ⟨g, 0, none⟩) 3 c, .int .i64 0]) ∧ FB w w' (some ⟨gd, 0, none⟩) 6 cd (p.drop 2) ∧ FB w w' (some ⟨g, 0, none⟩) 3 c (flowL bl) ∧ Below w.heap.size w w' := by
  obtain ⟨hA, hZ, hB⟩ := two5 w 44 (.int .i64 want) (.slice a n cap) (.int .i64 next) (.int .i64 block) (.int .i64 left) (.int .i64 0) (.slice none 0 0) (.int .i64 0) (.int .i64 0) (.int .i64 0)
  have HA := Hid.mk hA
  have HZ := Hid.mk hZ
  have HB := Hid.mk hB
  subst h8
  have h8 := hm1
  have HLO := Hid.mk (fun W (h : Below w.heap.size w W) => lower_any y 8 mc c0 W (by omega) hc0 (cell_kept h hy0))
  have hor := or8_op (show c0 % 16 < 16 by omega) hc1
  rw [← hS] at hor
  obtain ⟨r, hr⟩ : ∃ r, r = c0 % 16 := ⟨_, rfl⟩
  rw [← hr] at HLO hor
  have hr15 : (r : Int) ≤ 15 := by omega
  have hc1' : (c1 : Int) ≤ 255 := by omega
  have hS5 : (S : Int) ≤ 4095 := by omega
  have HY1 := Hid.mk hy1
  have h7' : ¬ ((S : Int) ≤ 7) := by omega
  have h8' : ¬ ((300 : Int) < (S : Int)) := by omega
  have hmc : 8 ≤ mc := hD.2.1
  have hmc1 : 2 < mc := by omega
  have hmc3 : ¬ mc = 2 := by omega
  have hmc2 : (2 : Int) < (mc : Int) := by omega
  have HCL : Hid (∀ W : World, Below w.heap.size w W → Calls Try.prog 31 #[.slice (some ⟨y.block, y.off + 2, none⟩) 6 (mc - 2)] W fun e w' => ∃ g c, e = .returned (.slice (some ⟨g, 0, none⟩) 6 c) ∧ w'.ownsRow W.heap.size 5 1 (.slice (some ⟨g, 0, none⟩) 6 c) 6 (cellsOf (p.drop 2)) ∧ W.heap.size ≤ g ∧ Below W.heap.size W w') := Hid.mk (fun W h => by
    have h1 := isBytes_cut hD 2 8 (by omega) (Nat.le_refl _)
    rw [List.take_of_length_le (by rw [List.length_drop]; have := hD.1; omega), add2P] at h1
    exact cloneBy_some ⟨y.block, y.off + 2, none⟩ 6 (mc - 2) (p.drop 2) W (isBytes_below h1 h) (by omega))
  have HLT := Hid.mk (fun W => letThrough_any bl W hbl5)
  rw [← hbl] at HLT
  clear hbl
  generalize p.drop 2 = PD at *
  clear hr hy0 hy1 hS hm hD h7 h30 h8
  clear hA hZ hB
  unfold gtV
  go_enter Try.func37, Try.ntmps37
  go_wp2_with fail
  have d1 := cell_kept HB.out HY1.out
  generalize ((w.alloc (.cells #[.int .i64 want, .slice a n cap, .int .i64 next, .int .i64 block, .int .i64 left] 44)).alloc (.cells #[.int .i64 0, .slice none 0 0, .int .i64 0, .int .i64 0, .int .i64 0] 44)) = W0 at *
  go_quiet (((go_at_call 46; refine Calls.quiet_of_same (HLO.out _ (drP HB.out _)))))
  have hbq : Below W0.heap.size W0 (W0.drewN nq) := drP (Below.refl _ _) nq
  have HA1 := Hid.mk (HA.out.kept hbq)
  have HZ1 := Hid.mk (HZ.out.kept hbq)
  have HB1 := Hid.mk (bl2 HB.out hbq)
  generalize W0.drewN nq = W1 at *
  clear hbq HA HZ HB d1 HY1 HLO hor
  go_wp2_with fail
  go_cut [8] (fun s8 wx => ∃ g8 gd cd, s8 = .pointer (some ⟨g8, 0, none⟩) ∧ Hid (Row5 wx g8 44 (.int .i64 (S : Int)) (.slice (some ⟨gd, 0, none⟩) 6 cd) (.int .i64 1) (.int .i64 block) (.int .i64 block)) ∧ Hid (FB W1 wx (some ⟨gd, 0, none⟩) 6 cd PD) ∧ Hid (W1.heap.size ≤ g8) ∧ Hid (Below W1.heap.size W1 wx))
  case first =>
    have HK : Hid (∀ W : World, Below W1.heap.size W1 W → W.cell? ⟨w.heap.size, 3, none⟩ = some (.int .i64 block)) := Hid.mk (fun W hb => (HA1.out.kept hb).cells.2.2.2.1)
    have HD1 := Hid.mk (dwG W1)
    have HD2 := Hid.mk (bl2 (awG W1 (.cells #[.int .i64 0, .slice none 0 0, .int .i64 0, .int .i64 0, .int .i64 0] 44)) (dwG (W1.alloc (.cells #[.int .i64 0, .slice none 0 0, .int .i64 0, .int .i64 0, .int .i64 0] 44))))
    have HX2 := Hid.mk ((Row5.new W1 44 (.int .i64 0) (.slice none 0 0) (.int .i64 0) (.int .i64 0) (.int .i64 0)).kept (dwG _))
    have HNE : Hid (w.heap.size ≠ W1.heap.size) := Hid.mk (by have := HA1.out.lt; omega)
    have HCA := Hid.mk (HCL.out _ (bl2 HB1.out HD1.out))
    have HCB := Hid.mk (HCL.out _ (bl2 HB1.out HD2.out))
    go_region_held3 (fun W => W.cell? ⟨w.heap.size, 3, none⟩ = some (.int .i64 block)) (with_reducible first | exact HK.out _ (dwG _) | exact HK.out _ HD2.out | exact HK.out _ HB5.out | exact HK.out _ (bl2 HB5.out (awG _ _)) | exact ((HA1.out.kept HB5.out).far5 HNE.out _ _ _ _ _).cells.2.2.2.1) (first
      | (go_at_call 31; with_reducible refine HCA.out.mono ?_; rintro e w5 ⟨gd, cd, rfl, hown, hgd, hb5⟩
         have HB5 := Hid.mk (bl2 HD1.out hb5)
         have HGD := Hid.mk (Nat.le_trans HD1.out.size hgd)
         have HO := Hid.mk (isBytes_ownG hown)
         clear hown hgd hb5)
      | (go_at_call 31; with_reducible refine HCB.out.mono ?_; rintro e w5 ⟨gd, cd, rfl, hown, hgd, hb5⟩
         have HB5 := Hid.mk (bl2 HD2.out hb5)
         have HGD : Hid (W1.heap.size < gd) := Hid.mk (Nat.lt_of_lt_of_le HX2.out.lt hgd)
         have HO := Hid.mk (isBytes_ownG hown)
         have HX5 := Hid.mk (HX2.out.kept hb5)
         obtain ⟨⟨z0, z1, z2, z3, z4⟩, ⟨y0, y1, y2, y3, y4⟩, ⟨p1, q1⟩, ⟨p2, q2⟩, ⟨p3, q3⟩, ⟨p4, q4⟩, hSX⟩ := HX5.out.ready (.int .i64 (S : Int)) (.slice (some ⟨gd, 0, none⟩) 6 cd) (.int .i64 1) (.int .i64 block) (.int .i64 block)
         have HSX := Hid.mk hSX
         clear hown hgd hb5 hSX))
    · go_wp2_with fail
      go_meet
      exact ⟨_, gd, cd, rfl, Hid.mk (Row5.new w5 44 (.int .i64 (S : Int)) (.slice (some ⟨gd, 0, none⟩) 6 cd) (.int .i64 1) (.int .i64 block) (.int .i64 block)), Hid.mk ⟨isBytes_below HO.out (awG _ _), fun q hq => by cases hq; exact HGD.out⟩, Hid.mk HB5.out.size, Hid.mk (bl2 HB5.out (awG _ _))⟩
    all_goals focus
      go_wp2_with fail
      go_meet
      exact ⟨_, gd, cd, rfl, HSX, Hid.mk ⟨isBytes_set5 HO.out (by have := HGD.out; simp; omega) _ _ _ _ _, fun q hq => by cases hq; have := HGD.out; simp; omega⟩, Hid.mk (Nat.le_refl _), Hid.mk (set5_below HB5.out (Nat.le_refl _) _ _ _ _ _)⟩
  case rest =>
    obtain ⟨g8, gd, cd, rfl, HX8, HFD, HG8, HBc⟩ := hcut
    have HAc := Hid.mk (HA1.out.kept HBc.out)
    have HZc := Hid.mk (HZ1.out.kept HBc.out)
    have HBw := Hid.mk (bl2 HB1.out HBc.out)
    have HZL := Hid.mk HZ1.out.lt
    clear HA1 HZ1 HB1 HBc HCL
    have HK : Hid (∀ W : World, Below wc.heap.size wc W → (W.cell? ⟨g8, 0, none⟩ = some (.int .i64 (S : Int)) ∧ W.cell? ⟨g8, 1, none⟩ = some (.slice (some ⟨gd, 0, none⟩) 6 cd) ∧ W.cell? ⟨g8, 2, none⟩ = some (.int .i64 1) ∧ W.cell? ⟨g8, 3, none⟩ = some (.int .i64 block) ∧ W.cell? ⟨g8, 4, none⟩ = some (.int .i64 block)) ∧ W.cell? ⟨w.heap.size, 3, none⟩ = some (.int .i64 block)) := Hid.mk (fun W hb => ⟨(HX8.out.kept hb).cells, (HAc.out.kept hb).cells.2.2.2.1⟩)
    have HLW := Hid.mk (HLT.out wc.drew)
    have HN1 : Hid (g8 ≠ w.heap.size + 1) := Hid.mk (by have := HG8.out; have := HZL.out; omega)
    have HN2 : Hid (w.heap.size ≠ w.heap.size + 1) := Hid.mk (by omega)
    go_wp2_with fail
    go_region_held3 (fun W => (W.cell? ⟨g8, 0, none⟩ = some (.int .i64 (S : Int)) ∧ W.cell? ⟨g8, 1, none⟩ = some (.slice (some ⟨gd, 0, none⟩) 6 cd) ∧ W.cell? ⟨g8, 2, none⟩ = some (.int .i64 1) ∧ W.cell? ⟨g8, 3, none⟩ = some (.int .i64 block) ∧ W.cell? ⟨g8, 4, none⟩ = some (.int .i64 block)) ∧ W.cell? ⟨w.heap.size, 3, none⟩ = some (.int .i64 block)) (with_reducible first | exact HK.out _ (dwG _) | exact HK.out _ HB5.out | exact ⟨((HX8.out.kept HB5.out).far5 HN1.out _ _ _ _ _).cells, ((HAc.out.kept HB5.out).far5 HN2.out _ _ _ _ _).cells.2.2.2.1⟩) (first
      | (go_at_call 48; with_reducible refine HLW.out.mono ?_; rintro e w5 ⟨g, c, rfl, hg, hD5, hb5⟩
         have HB5 := Hid.mk (bl2 (dwG wc) hb5)
         have HG := Hid.mk (Nat.le_trans (dwG wc).size hg)
         have HD5 := Hid.mk hD5
         obtain ⟨⟨z0, z1, z2, z3, z4⟩, ⟨y0, y1, y2, y3, y4⟩, ⟨p1, q1⟩, ⟨p2, q2⟩, ⟨p3, q3⟩, ⟨p4, q4⟩, hSX⟩ := (HZc.out.kept HB5.out).ready (.int .i64 (S : Int)) (.slice (some ⟨gd, 0, none⟩) 6 cd) (.int .i64 1) (.int .i64 block) (.int .i64 block)
         have HSX := Hid.mk hSX
         clear hSX hg hD5 hb5))
    go_wp2_with fail
    refine bodyPost_ret (first_res _ _ (w.heap.size + 1) _ _ _ rfl rfl rfl HSX.out rfl) rfl ?_
    have hlt := HZc.out.lt
    have hlt1 := HZL.out
    exact ⟨gd, cd, g, c, rfl, ⟨isBytes_set5 (isBytes_below HFD.out.1 HB5.out) (by have := HFD.out.2 _ rfl; simp at this; simp; omega) _ _ _ _ _, fun q hq => by cases hq; have := HFD.out.2 _ rfl; simp at this; simp; omega⟩, ⟨isBytes_set5 HD5.out (by have := HG.out; simp; omega) _ _ _ _ _, fun q hq => by cases hq; have := HG.out; simp; omega⟩, set5_below (bl2 HBw.out HB5.out) (Nat.le_succ _) _ _ _ _ _⟩
end Bw
end Go.Proofs.Ytgjnfmbmndnihaa
