/- What package part's getNext answers. -/
import Derived.Test.YtgjnfmbmndnihaaPtOne
import Derived.BigQuiet
import Derived.Deep.AppendLies
namespace Go.Proofs.Ytgjnfmbmndnihaa
open Go.ChangeShapes Go.WideShapes Go.ChangeAt Go.RowKit
namespace Bw
open Bm
set_option linter.unusedVariables false
theorem getn_res (tmps : Array Value) (w : World) (g : Nat) (cs : Array Value) (x y z : Value) (hp : tmps.getD 4 undef = .pointer (some ⟨g, 0, none⟩)) (hx : tmps.getD 5 undef = x) (hy : tmps.getD 6 undef = y) (hz : tmps.getD 7 undef = z) (h : w.heap[g]? = some (.cells cs 44 (0, 0))) (hs : cs.size = 5) :
    (results Try.f38 tmps).run Try.prog w = .ok (.tuple #[.agg cs, x, y, z]) w := by
  have hl := run_loadVar_row (P := Try.prog) w g 44 44 cs (0, 0) _ h Try.underlying44 rfl (by rw [gt_i, hs])
  have hp' : tmps[4]?.getD undef = .pointer (some ⟨g, 0, none⟩) := by simpa using hp
  have hx' : tmps[5]?.getD undef = x := by simpa using hx
  have hy' : tmps[6]?.getD undef = y := by simpa using hy
  have hz' : tmps[7]?.getD undef = z := by simpa using hz
  simp [results, hp', hx', hy', hz', asAddr, hl]
theorem own_geP {w : World} {base : Nat} {e : TypeId} {size g n c k : Nat} {xs : List Value} (h : w.ownsRow base e size (.slice (some ⟨g, 0, none⟩) n c) k xs) : base ≤ g := by
  rcases h.2 with ⟨h0, _⟩ | ⟨g', cap', cur, hv, hg, _⟩
  · cases h0
  · cases hv; exact hg
set_option maxHeartbeats 8000000 in
set_option maxRecDepth 100000 in
theorem getn_late (a : Option Addr) (cap : Nat) (next block left : Int) (y : Addr) (m mc c0 : Nat) (w : World) (hm : m ≤ 8) (hm1 : 1 ≤ m) (hc0 : c0 < 256) (hy : w.cell? y = some (.int .u8 (c0 : Int)))  :
    Calls Try.prog 38 #[gtV 0 a 0 cap next block left, .slice (some y) m mc] w fun e w' => e = .returned (.tuple #[gtV 0 none 0 0 0 0 0, .slice none 0 0, .slice none 0 0, .int .i64 12]) ∧ Below w.heap.size w w' := by
  obtain ⟨hA, hZ, hB⟩ := two5 w 44 (.int .i64 0) (.slice a 0 cap) (.int .i64 next) (.int .i64 block) (.int .i64 left) (.int .i64 0) (.slice none 0 0) (.int .i64 0) (.int .i64 0) (.int .i64 0)
  have HA := Hid.mk hA
  have HZ := Hid.mk hZ
  have HB := Hid.mk hB
  clear hy
  clear hA hZ hB
  unfold gtV
  go_enter Try.func38, Try.ntmps38
  go_wp2_with fail
  refine bodyPost_ret (getn_res _ _ (w.heap.size + 1) _ _ _ _ rfl rfl rfl rfl HZ.out rfl) rfl ?_
  exact ⟨rfl, HB.out⟩
set_option maxHeartbeats 8000000 in
set_option maxRecDepth 100000 in
theorem getn_lost (wt n cap : Nat) (a : Option Addr) (next block left : Int) (y : Addr) (m mc c0 : Nat) (w : World) (hm : m ≤ 8) (hm1 : 1 ≤ m) (hc0 : c0 < 256) (hy : w.cell? y = some (.int .u8 (c0 : Int))) (hw8 : 8 ≤ wt) (hw3 : wt ≤ 300) (hn : n < wt) (hx : next ≠ ((c0 % 16 : Nat) : Int)) :
    Calls Try.prog 38 #[gtV (wt : Int) a n cap next block left, .slice (some y) m mc] w fun e w' => e = .returned (.tuple #[gtV 0 none 0 0 0 0 0, .slice none 0 0, .slice none 0 0, .int .i64 14]) ∧ Below w.heap.size w w' := by
  obtain ⟨hA, hZ, hB⟩ := two5 w 44 (.int .i64 (wt : Int)) (.slice a n cap) (.int .i64 next) (.int .i64 block) (.int .i64 left) (.int .i64 0) (.slice none 0 0) (.int .i64 0) (.int .i64 0) (.int .i64 0)
  have HA := Hid.mk hA
  have HZ := Hid.mk hZ
  have HB := Hid.mk hB
  have HLO := Hid.mk (fun W (h : Below w.heap.size w W) => lower_any y m mc c0 W (by omega) hc0 (cell_kept h hy))
  obtain ⟨r, hr⟩ : ∃ r, r = c0 % 16 := ⟨_, rfl⟩
  rw [← hr] at HLO
  obtain ⟨d, hde⟩ : ∃ d, d = wt - n := ⟨_, rfl⟩
  have hd : (wt : Int) - (n : Int) = (d : Int) := by omega
  have hw0 : ((wt : Int) == 0) = false := by simp; omega
  have hd3 : (d : Int) ≤ 300 := by omega
  have hwt3 : (wt : Int) ≤ 300 := by omega
  have hn3 : (n : Int) ≤ 300 := by omega
  rw [← hr] at hx
  have hx' : ((r : Int) != next) = true := by simp; omega
  clear hx hr hy hde
  clear hA hZ hB
  unfold gtV
  go_enter Try.func38, Try.ntmps38
  go_wp2_with fail
  generalize ((w.alloc (.cells #[.int .i64 (wt : Int), .slice a n cap, .int .i64 next, .int .i64 block, .int .i64 left] 44)).alloc (.cells #[.int .i64 0, .slice none 0 0, .int .i64 0, .int .i64 0, .int .i64 0] 44)) = W0 at *
  obtain ⟨a0, a1, a2, a3, a4⟩ := HA.out.cells
  go_quiet (((go_at_call 46; refine Calls.quiet_of_same (HLO.out _ (drP HB.out _)))))
  have hbq : Below W0.heap.size W0 (W0.drewN nq) := drP (Below.refl _ _) nq
  have HA1 := Hid.mk (HA.out.kept hbq)
  have HZ1 := Hid.mk (HZ.out.kept hbq)
  have HB1 := Hid.mk (bl2 HB.out hbq)
  generalize W0.drewN nq = W1 at *
  clear hbq HA HZ HB HLO a0 a1 a2 a3 a4
  obtain ⟨a0, a1, a2, a3, a4⟩ := HA1.out.cells
  obtain ⟨⟨z0, z1, z2, z3, z4⟩, ⟨y0, y1, y2, y3, y4⟩, ⟨p1, q1⟩, ⟨p2, q2⟩, ⟨p3, q3⟩, ⟨p4, q4⟩, hSX⟩ := HZ1.out.ready (.int .i64 0) (.slice none 0 0) (.int .i64 0) (.int .i64 0) (.int .i64 0)
  have HSX := Hid.mk hSX
  clear hSX
  go_wp2_with fail
  refine bodyPost_ret (getn_res _ _ (w.heap.size + 1) _ _ _ _ rfl rfl rfl rfl HSX.out rfl) rfl ?_
  exact ⟨rfl, set5_below HB1.out (Nat.le_succ _) _ _ _ _ _⟩
set_option maxHeartbeats 8000000 in
set_option maxRecDepth 100000 in
theorem getn_form (wt n cap : Nat) (a : Option Addr) (next block left : Int) (y : Addr) (m mc c0 : Nat) (w : World) (hm : m ≤ 8) (hm1 : 1 ≤ m) (hc0 : c0 < 256) (hy : w.cell? y = some (.int .u8 (c0 : Int))) (hw8 : 8 ≤ wt) (hw3 : wt ≤ 300) (hn : n < wt) (hx : next = ((c0 % 16 : Nat) : Int)) (hf : m ≠ 1 + min (wt - n) 7) :
    Calls Try.prog 38 #[gtV (wt : Int) a n cap next block left, .slice (some y) m mc] w fun e w' => e = .returned (.tuple #[gtV 0 none 0 0 0 0 0, .slice none 0 0, .slice none 0 0, .int .i64 4]) ∧ Below w.heap.size w w' := by
  obtain ⟨hA, hZ, hB⟩ := two5 w 44 (.int .i64 (wt : Int)) (.slice a n cap) (.int .i64 next) (.int .i64 block) (.int .i64 left) (.int .i64 0) (.slice none 0 0) (.int .i64 0) (.int .i64 0) (.int .i64 0)
  have HA := Hid.mk hA
  have HZ := Hid.mk hZ
  have HB := Hid.mk hB
  have HLO := Hid.mk (fun W (h : Below w.heap.size w W) => lower_any y m mc c0 W (by omega) hc0 (cell_kept h hy))
  obtain ⟨r, hr⟩ : ∃ r, r = c0 % 16 := ⟨_, rfl⟩
  rw [← hr] at HLO
  obtain ⟨d, hde⟩ : ∃ d, d = wt - n := ⟨_, rfl⟩
  have hd : (wt : Int) - (n : Int) = (d : Int) := by omega
  have hw0 : ((wt : Int) == 0) = false := by simp; omega
  have hd3 : (d : Int) ≤ 300 := by omega
  have hwt3 : (wt : Int) ≤ 300 := by omega
  have hn3 : (n : Int) ≤ 300 := by omega
  obtain ⟨mn, hmn⟩ : ∃ mn, mn = min d 7 := ⟨_, rfl⟩
  have hmin : (if (7 : Int) < (d : Int) then (7 : Int) else (d : Int)) = (mn : Int) := by split <;> omega
  have hmin2 : min (d : Int) 7 = (mn : Int) := by omega
  have hmn7 : (mn : Int) ≤ 7 := by omega
  have hm8 : (m : Int) ≤ 8 := by omega
  rw [← hr] at hx
  subst hx
  have hf' : ((m : Int) != 1 + (mn : Int)) = true := by simp; omega
  clear hf hr hy hde hmn
  clear hA hZ hB
  unfold gtV
  go_enter Try.func38, Try.ntmps38
  go_wp2_with fail
  generalize ((w.alloc (.cells #[.int .i64 (wt : Int), .slice a n cap, .int .i64 (r : Int), .int .i64 block, .int .i64 left] 44)).alloc (.cells #[.int .i64 0, .slice none 0 0, .int .i64 0, .int .i64 0, .int .i64 0] 44)) = W0 at *
  obtain ⟨a0, a1, a2, a3, a4⟩ := HA.out.cells
  go_quiet (((go_at_call 46; refine Calls.quiet_of_same (HLO.out _ (drP HB.out _)))))
  have hbq : Below W0.heap.size W0 (W0.drewN nq) := drP (Below.refl _ _) nq
  have HA1 := Hid.mk (HA.out.kept hbq)
  have HZ1 := Hid.mk (HZ.out.kept hbq)
  have HB1 := Hid.mk (bl2 HB.out hbq)
  generalize W0.drewN nq = W1 at *
  clear hbq HA HZ HB HLO a0 a1 a2 a3 a4
  obtain ⟨a0, a1, a2, a3, a4⟩ := HA1.out.cells
  obtain ⟨⟨z0, z1, z2, z3, z4⟩, ⟨y0, y1, y2, y3, y4⟩, ⟨p1, q1⟩, ⟨p2, q2⟩, ⟨p3, q3⟩, ⟨p4, q4⟩, hSX⟩ := HZ1.out.ready (.int .i64 0) (.slice none 0 0) (.int .i64 0) (.int .i64 0) (.int .i64 0)
  have HSX := Hid.mk hSX
  clear hSX
  go_wp2_with fail
  refine bodyPost_ret (getn_res _ _ (w.heap.size + 1) _ _ _ _ rfl rfl rfl rfl HSX.out rfl) rfl ?_
  exact ⟨rfl, set5_below HB1.out (Nat.le_succ _) _ _ _ _ _⟩
set_option maxHeartbeats 8000000 in
set_option maxRecDepth 100000 in
theorem getn_whole (wt n cap : Nat) (a : Option Addr) (next block left : Int) (y : Addr) (m mc c0 : Nat) (w : World) (hm : m ≤ 8) (hm1 : 1 ≤ m) (hc0 : c0 < 256) (hy : w.cell? y = some (.int .u8 (c0 : Int))) (hw8 : 8 ≤ wt) (hw3 : wt ≤ 300) (hn : n < wt) (x : Addr) (dt p : List UInt8) (ha : a = some x) (hD : IsBytes w (some x) n cap dt) (hP : IsBytes w (some y) m mc p) (hx : next = ((c0 % 16 : Nat) : Int)) (hf : m = 1 + min (wt - n) 7) (hwh : n + (m - 1) = wt) :
    Calls Try.prog 38 #[gtV (wt : Int) a n cap next block left, .slice (some y) m mc] w fun e w' => ∃ g c, e = .returned (.tuple #[gtV 0 none 0 0 0 block 0, .slice none 0 0, .slice (some ⟨g, 0, none⟩) wt c, .int .i64 0]) ∧ FB w w' (some ⟨g, 0, none⟩) wt c (dt ++ p.drop 1) ∧ Below w.heap.size w w' := by
  obtain ⟨hA, hZ, hB⟩ := two5 w 44 (.int .i64 (wt : Int)) (.slice a n cap) (.int .i64 next) (.int .i64 block) (.int .i64 left) (.int .i64 0) (.slice none 0 0) (.int .i64 0) (.int .i64 0) (.int .i64 0)
  have HA := Hid.mk hA
  have HZ := Hid.mk hZ
  have HB := Hid.mk hB
  have HLO := Hid.mk (fun W (h : Below w.heap.size w W) => lower_any y m mc c0 W (by omega) hc0 (cell_kept h hy))
  obtain ⟨r, hr⟩ : ∃ r, r = c0 % 16 := ⟨_, rfl⟩
  rw [← hr] at HLO
  obtain ⟨d, hde⟩ : ∃ d, d = wt - n := ⟨_, rfl⟩
  have hd : (wt : Int) - (n : Int) = (d : Int) := by omega
  have hw0 : ((wt : Int) == 0) = false := by simp; omega
  have hd3 : (d : Int) ≤ 300 := by omega
  have hwt3 : (wt : Int) ≤ 300 := by omega
  have hn3 : (n : Int) ≤ 300 := by omega
  obtain ⟨mn, hmn⟩ : ∃ mn, mn = min d 7 := ⟨_, rfl⟩
  have hmin : (if (7 : Int) < (d : Int) then (7 : Int) else (d : Int)) = (mn : Int) := by split <;> omega
  have hmin2 : min (d : Int) 7 = (mn : Int) := by omega
  have hmn7 : (mn : Int) ≤ 7 := by omega
  have hm8 : (m : Int) ≤ 8 := by omega
  rw [← hr] at hx
  subst hx
  have hf' : ((m : Int) != 1 + (mn : Int)) = false := by simp; omega
  have hmc : m ≤ mc := hP.2.1
  have hm2 : 2 ≤ m := by omega
  have hmc1 : 1 < mc := by omega
  have hmc3 : ¬ mc = 1 := by omega
  have hmc2 : (1 : Int) < (mc : Int) := by omega
  have hm0 : (1 : Int) ≤ (m : Int) := by omega
  have hm3 : 1 ≤ m := by omega
  obtain ⟨i0, hi, hz0, hz1, hz2⟩ := info_parts info_u8
  have HCL := Hid.mk (fun W (h : Below w.heap.size w W) => cloneBy_some x n cap dt W (isBytes_below hD h) (by omega))
  have HCC : Hid (∀ W : World, Below w.heap.size w W → ∀ q u, (cellsOf (p.drop 1))[q]? = some u → W.cell? ((⟨y.block, y.off + 1, none⟩ : Addr).add q) = some u) := Hid.mk (fun W h => by
    have h1 := isBytes_cut hP 1 m (by omega) (Nat.le_refl _)
    rw [List.take_of_length_le (by rw [List.length_drop]; have := hP.1; omega), add1P] at h1
    exact bytes_cells (isBytes_below h1 h))
  have HCN : Hid ((cellsOf (p.drop 1)).length = (m - 1) * 1) := Hid.mk (by rw [cellsOf_length, List.length_drop, hP.1, Nat.mul_one])
  have HAP : Hid (cellsOf dt ++ cellsOf (p.drop 1) = cellsOf (dt ++ p.drop 1)) := Hid.mk (cellsOf_append _ _).symm
  obtain ⟨NT, hNT⟩ : ∃ NT, NT = n + (m - 1) := ⟨_, rfl⟩
  have hNT3 : (NT : Int) ≤ 308 := by omega
  have hn300 : n ≤ 300 := by omega
  subst ha
  generalize dt ++ p.drop 1 = DT at *
  generalize p.drop 1 = PD at *
  have hcmp : ((NT : Int) == (wt : Int)) = true := by simp; omega
  have HNW : Hid (NT = wt) := Hid.mk (by omega)
  have HID := Hid.mk (fun W => idle_any (wt : Int) (some x) n cap (r : Int) block left W)
  unfold gtV at HID
  clear hf hr hy hde hmn hD hP hwh
  clear hA hZ hB
  unfold gtV
  go_enter Try.func38, Try.ntmps38
  go_wp2_with fail
  generalize ((w.alloc (.cells #[.int .i64 (wt : Int), .slice (some x) n cap, .int .i64 (r : Int), .int .i64 block, .int .i64 left] 44)).alloc (.cells #[.int .i64 0, .slice none 0 0, .int .i64 0, .int .i64 0, .int .i64 0] 44)) = W0 at *
  obtain ⟨a0, a1, a2, a3, a4⟩ := HA.out.cells
  go_quiet (((go_at_call 46; refine Calls.quiet_of_same (HLO.out _ (drP HB.out _)))))
  have hbq : Below W0.heap.size W0 (W0.drewN nq) := drP (Below.refl _ _) nq
  have HA1 := Hid.mk (HA.out.kept hbq)
  have HZ1 := Hid.mk (HZ.out.kept hbq)
  have HB1 := Hid.mk (bl2 HB.out hbq)
  generalize W0.drewN nq = W1 at *
  clear hbq HA HZ HB HLO a0 a1 a2 a3 a4
  obtain ⟨a0, a1, a2, a3, a4⟩ := HA1.out.cells
  go_wp2_with fail
  have HK : Hid (∀ W : World, Below W1.heap.size W1 W → W.cell? ⟨w.heap.size, 1, none⟩ = some (.slice (some x) n cap)) := Hid.mk (fun W hb => (HA1.out.kept hb).cells.2.1)
  have HCW := Hid.mk (HCL.out _ (bl2 HB1.out (dwG W1)))
  go_region_held3 (fun W => W.cell? ⟨w.heap.size, 1, none⟩ = some (.slice (some x) n cap)) (with_reducible first | exact HK.out _ (dwG _) | exact HK.out _ HB5.out | exact HK.out _ HB6.out) (first
    | (go_at_call 31; with_reducible refine HCW.out.mono ?_; rintro e w5 ⟨gc, cc, rfl, hown, hgc, hb5⟩
       have HB5 := Hid.mk (bl2 (dwG W1) hb5)
       have HO5 := Hid.mk hown
       clear hown hgc hb5)
    | (refine step_append_lies _ rfl (.tmp 38) (.tmp 40) 22 rfl W1.drew.heap.size 5 i0 (.int .u8 0) 1 1 Try.underlying22 hi hz0 hz1 hz2 rfl (by decide) _ _ _ rfl HO5.out ⟨y.block, y.off + 1, none⟩ (m - 1) (mc - 1) (cellsOf PD) rfl HCN.out (HCC.out _ (bl2 HB1.out HB5.out)) (by intro u hu; simp [cellsOf] at hu; obtain ⟨c, -, rfl⟩ := hu; rfl) (by omega) (by unfold maxLen; omega) (by omega) (by have := HB5.out.size; simp; omega) _ rfl ?_
       intro g c w6 hown6 hgrow6 _ _
       rw [HAP.out, ← hNT] at hown6
       have HO6 := Hid.mk hown6
       have HG6 : Hid (W1.heap.size ≤ g) := Hid.mk (own_geP hown6)
       have HB6 := Hid.mk (Below.grown HB5.out hgrow6 HB5.out.size (fun q hq => (HO5.out.lt q hq).1))
       clear hown6 hgrow6))
  rw [← hNT]
  have HA6 := Hid.mk (HA1.out.kept HB6.out)
  have HZ6 := Hid.mk (HZ1.out.kept HB6.out)
  have HBW := Hid.mk (bl2 HB1.out HB6.out)
  have HG : Hid (w.heap.size + 1 < g) := Hid.mk (by have := HZ1.out.lt; have := HG6.out; omega)
  have HD6 := Hid.mk (isBytes_ownG HO6.out)
  have HNT := Hid.mk hNT
  clear hNT a0 a1 a2 a3 a4 HA1 HZ1 HB1 HB5 HB6 HO5 HO6 HCL HCC HCW HCN HAP HG6 HK hf' hmin hmin2
  obtain ⟨a0, a1, a2, a3, a4⟩ := HA6.out.cells
  go_wp2_with fail
  refine (HID.out _).mono ?_
  rintro e w7 ⟨rfl, hb7⟩
  have HB7 := Hid.mk (bl2 HBW.out hb7)
  have HD7 := Hid.mk (isBytes_below HD6.out hb7)
  obtain ⟨⟨z0, z1, z2, z3, z4⟩, ⟨y0, y1, y2, y3, y4⟩, ⟨p1, q1⟩, ⟨p2, q2⟩, ⟨p3, q3⟩, ⟨p4, q4⟩, hSX⟩ := (HZ6.out.kept hb7).ready (.int .i64 0) (.slice none 0 0) (.int .i64 0) (.int .i64 block) (.int .i64 0)
  have HSX := Hid.mk hSX
  clear hSX hb7 a0 a1 a2 a3 a4 HA6 HZ6 HBW HD6 HID
  go_wp2_with fail
  refine bodyPost_ret (getn_res _ _ (w.heap.size + 1) _ _ _ _ rfl rfl rfl rfl HSX.out rfl) rfl ?_
  rw [← HNW.out]
  exact ⟨g, c, rfl, ⟨isBytes_set5 HD7.out (by have := HG.out; simp; omega) _ _ _ _ _, fun q hq => by cases hq; have := HG.out; simp; omega⟩, set5_below HB7.out (Nat.le_succ _) _ _ _ _ _⟩
set_option maxHeartbeats 8000000 in
set_option maxRecDepth 100000 in
theorem getn_free (wt n cap : Nat) (a : Option Addr) (next left : Int) (y : Addr) (m mc c0 : Nat) (w : World) (hm : m ≤ 8) (hm1 : 1 ≤ m) (hc0 : c0 < 256) (hy : w.cell? y = some (.int .u8 (c0 : Int))) (hw8 : 8 ≤ wt) (hw3 : wt ≤ 300) (hn : n < wt) (x : Addr) (dt p : List UInt8) (ha : a = some x) (hD : IsBytes w (some x) n cap dt) (hP : IsBytes w (some y) m mc p) (hx : next = ((c0 % 16 : Nat) : Int)) (hf : m = 1 + min (wt - n) 7) (hwh : n + (m - 1) ≠ wt)  :
    Calls Try.prog 38 #[gtV (wt : Int) a n cap next 0 left, .slice (some y) m mc] w fun e w' => ∃ g c, e = .returned (.tuple #[gtV (wt : Int) (some ⟨g, 0, none⟩) (n + (m - 1)) c (((c0 % 16 + 1) % 16 : Nat) : Int) 0 left, .slice none 0 0, .slice none 0 0, .int .i64 0]) ∧ FB w w' (some ⟨g, 0, none⟩) (n + (m - 1)) c (dt ++ p.drop 1) ∧ Below w.heap.size w w' := by
  obtain ⟨hA, hZ, hB⟩ := two5 w 44 (.int .i64 (wt : Int)) (.slice a n cap) (.int .i64 next) (.int .i64 0) (.int .i64 left) (.int .i64 0) (.slice none 0 0) (.int .i64 0) (.int .i64 0) (.int .i64 0)
  have HA := Hid.mk hA
  have HZ := Hid.mk hZ
  have HB := Hid.mk hB
  have HLO := Hid.mk (fun W (h : Below w.heap.size w W) => lower_any y m mc c0 W (by omega) hc0 (cell_kept h hy))
  obtain ⟨r, hr⟩ : ∃ r, r = c0 % 16 := ⟨_, rfl⟩
  rw [← hr] at HLO
  obtain ⟨d, hde⟩ : ∃ d, d = wt - n := ⟨_, rfl⟩
  have hd : (wt : Int) - (n : Int) = (d : Int) := by omega
  have hw0 : ((wt : Int) == 0) = false := by simp; omega
  have hd3 : (d : Int) ≤ 300 := by omega
  have hwt3 : (wt : Int) ≤ 300 := by omega
  have hn3 : (n : Int) ≤ 300 := by omega
  obtain ⟨mn, hmn⟩ : ∃ mn, mn = min d 7 := ⟨_, rfl⟩
  have hmin : (if (7 : Int) < (d : Int) then (7 : Int) else (d : Int)) = (mn : Int) := by split <;> omega
  have hmin2 : min (d : Int) 7 = (mn : Int) := by omega
  have hmn7 : (mn : Int) ≤ 7 := by omega
  have hm8 : (m : Int) ≤ 8 := by omega
  rw [← hr] at hx
  subst hx
  have hf' : ((m : Int) != 1 + (mn : Int)) = false := by simp; omega
  have hmc : m ≤ mc := hP.2.1
  have hm2 : 2 ≤ m := by omega
  have hmc1 : 1 < mc := by omega
  have hmc3 : ¬ mc = 1 := by omega
  have hmc2 : (1 : Int) < (mc : Int) := by omega
  have hm0 : (1 : Int) ≤ (m : Int) := by omega
  have hm3 : 1 ≤ m := by omega
  obtain ⟨i0, hi, hz0, hz1, hz2⟩ := info_parts info_u8
  have HCL := Hid.mk (fun W (h : Below w.heap.size w W) => cloneBy_some x n cap dt W (isBytes_below hD h) (by omega))
  have HCC : Hid (∀ W : World, Below w.heap.size w W → ∀ q u, (cellsOf (p.drop 1))[q]? = some u → W.cell? ((⟨y.block, y.off + 1, none⟩ : Addr).add q) = some u) := Hid.mk (fun W h => by
    have h1 := isBytes_cut hP 1 m (by omega) (Nat.le_refl _)
    rw [List.take_of_length_le (by rw [List.length_drop]; have := hP.1; omega), add1P] at h1
    exact bytes_cells (isBytes_below h1 h))
  have HCN : Hid ((cellsOf (p.drop 1)).length = (m - 1) * 1) := Hid.mk (by rw [cellsOf_length, List.length_drop, hP.1, Nat.mul_one])
  have HAP : Hid (cellsOf dt ++ cellsOf (p.drop 1) = cellsOf (dt ++ p.drop 1)) := Hid.mk (cellsOf_append _ _).symm
  obtain ⟨NT, hNT⟩ : ∃ NT, NT = n + (m - 1) := ⟨_, rfl⟩
  have hNT3 : (NT : Int) ≤ 308 := by omega
  have hn300 : n ≤ 300 := by omega
  subst ha
  generalize dt ++ p.drop 1 = DT at *
  generalize p.drop 1 = PD at *
  have hcmp : ((NT : Int) == (wt : Int)) = false := by simp; omega
  obtain ⟨N2, hN2⟩ : ∃ N2, N2 = (r + 1) % 16 := ⟨_, rfl⟩
  have hr0 : ((r : Int) + 1).tmod 16 = (N2 : Int) := by
    rw [Int.tmod_eq_emod_of_nonneg (by omega)]; omega
  have hrw : IntKind.i64.wrap (((r : Int) + 1).tmod 16) = (N2 : Int) := by
    rw [hr0, IntKind.wrap_i64]; omega
  have hr15 : (r : Int) ≤ 15 := by omega
  have hN2' : (N2 : Int) ≤ 15 := by omega
  rw [← hr, ← hN2]
  have HNT0 : Hid (NT = n + (m - 1)) := Hid.mk hNT
  rw [← HNT0.out]
  clear hf hr hy hde hmn hD hP hwh hN2
  clear hA hZ hB
  unfold gtV
  go_enter Try.func38, Try.ntmps38
  go_wp2_with fail
  generalize ((w.alloc (.cells #[.int .i64 (wt : Int), .slice (some x) n cap, .int .i64 (r : Int), .int .i64 0, .int .i64 left] 44)).alloc (.cells #[.int .i64 0, .slice none 0 0, .int .i64 0, .int .i64 0, .int .i64 0] 44)) = W0 at *
  obtain ⟨a0, a1, a2, a3, a4⟩ := HA.out.cells
  go_quiet (((go_at_call 46; refine Calls.quiet_of_same (HLO.out _ (drP HB.out _)))))
  have hbq : Below W0.heap.size W0 (W0.drewN nq) := drP (Below.refl _ _) nq
  have HA1 := Hid.mk (HA.out.kept hbq)
  have HZ1 := Hid.mk (HZ.out.kept hbq)
  have HB1 := Hid.mk (bl2 HB.out hbq)
  generalize W0.drewN nq = W1 at *
  clear hbq HA HZ HB HLO a0 a1 a2 a3 a4
  obtain ⟨a0, a1, a2, a3, a4⟩ := HA1.out.cells
  go_wp2_with fail
  have HK : Hid (∀ W : World, Below W1.heap.size W1 W → W.cell? ⟨w.heap.size, 1, none⟩ = some (.slice (some x) n cap)) := Hid.mk (fun W hb => (HA1.out.kept hb).cells.2.1)
  have HCW := Hid.mk (HCL.out _ (bl2 HB1.out (dwG W1)))
  go_region_held3 (fun W => W.cell? ⟨w.heap.size, 1, none⟩ = some (.slice (some x) n cap)) (with_reducible first | exact HK.out _ (dwG _) | exact HK.out _ HB5.out | exact HK.out _ HB6.out) (first
    | (go_at_call 31; with_reducible refine HCW.out.mono ?_; rintro e w5 ⟨gc, cc, rfl, hown, hgc, hb5⟩
       have HB5 := Hid.mk (bl2 (dwG W1) hb5)
       have HO5 := Hid.mk hown
       clear hown hgc hb5)
    | (refine step_append_lies _ rfl (.tmp 38) (.tmp 40) 22 rfl W1.drew.heap.size 5 i0 (.int .u8 0) 1 1 Try.underlying22 hi hz0 hz1 hz2 rfl (by decide) _ _ _ rfl HO5.out ⟨y.block, y.off + 1, none⟩ (m - 1) (mc - 1) (cellsOf PD) rfl HCN.out (HCC.out _ (bl2 HB1.out HB5.out)) (by intro u hu; simp [cellsOf] at hu; obtain ⟨c, -, rfl⟩ := hu; rfl) (by omega) (by unfold maxLen; omega) (by omega) (by have := HB5.out.size; simp; omega) _ rfl ?_
       intro g c w6 hown6 hgrow6 _ _
       rw [HAP.out, ← hNT] at hown6
       have HO6 := Hid.mk hown6
       have HG6 : Hid (W1.heap.size ≤ g) := Hid.mk (own_geP hown6)
       have HB6 := Hid.mk (Below.grown HB5.out hgrow6 HB5.out.size (fun q hq => (HO5.out.lt q hq).1))
       clear hown6 hgrow6))
  rw [← hNT]
  have HA6 := Hid.mk (HA1.out.kept HB6.out)
  have HZ6 := Hid.mk (HZ1.out.kept HB6.out)
  have HBW := Hid.mk (bl2 HB1.out HB6.out)
  have HG : Hid (w.heap.size + 1 < g) := Hid.mk (by have := HZ1.out.lt; have := HG6.out; omega)
  have HD6 := Hid.mk (isBytes_ownG HO6.out)
  have HNT := Hid.mk hNT
  clear hNT a0 a1 a2 a3 a4 HA1 HZ1 HB1 HB5 HB6 HO5 HO6 HCL HCC HCW HCN HAP HG6 HK hf' hmin hmin2
  obtain ⟨a0, a1, a2, a3, a4⟩ := HA6.out.cells
  have f1 := HA6.out.frozen 1
  have hA7 := (HA6.out.set (.slice (some ⟨g, 0, none⟩) NT c)).1.2.1
  obtain ⟨-, -, b2, b3, b4⟩ := hA7.cells
  have f2 := hA7.frozen 2
  have hA8 := (hA7.set (.int .i64 (N2 : Int))).1.2.2
  obtain ⟨c0', c1', c2', c3', c4'⟩ := hA8.cells
  have hsz : w.heap.size + 1 ≠ w.heap.size := by omega
  have hZ8 := (HZ6.out.far hsz 1 (.slice (some ⟨g, 0, none⟩) NT c)).far hsz 2 (.int .i64 (N2 : Int))
  have hB8 := (HBW.out.setCell (p := ⟨w.heap.size, 1, none⟩) (Nat.le_refl _) (.slice (some ⟨g, 0, none⟩) NT c)).setCell (p := ⟨w.heap.size, 2, none⟩) (Nat.le_refl _) (.int .i64 (N2 : Int))
  have hD8 := isBytes_set (isBytes_set HD6.out (show g ≠ w.heap.size by have := HG.out; omega) 1 (.slice (some ⟨g, 0, none⟩) NT c)) (show g ≠ w.heap.size by have := HG.out; omega) 2 (.int .i64 (N2 : Int))
  obtain ⟨⟨z0, z1, z2, z3, z4⟩, ⟨y0, y1, y2, y3, y4⟩, ⟨p1, q1⟩, ⟨p2, q2⟩, ⟨p3, q3⟩, ⟨p4, q4⟩, hSX⟩ := hZ8.ready (.int .i64 (wt : Int)) (.slice (some ⟨g, 0, none⟩) NT c) (.int .i64 (N2 : Int)) (.int .i64 0) (.int .i64 left)
  have HSX := Hid.mk hSX
  have HB9 := Hid.mk hB8
  have HD9 := Hid.mk (isBytes_set5 hD8 (show g ≠ w.heap.size + 1 by have := HG.out; omega) (.int .i64 (wt : Int)) (.slice (some ⟨g, 0, none⟩) NT c) (.int .i64 (N2 : Int)) (.int .i64 0) (.int .i64 left))
  clear hSX hA7 hA8 hZ8 hB8 hD8 HA6 HZ6 HBW HD6 hsz
  go_wp2_with fail
  refine bodyPost_ret (getn_res _ _ (w.heap.size + 1) _ _ _ _ rfl rfl rfl rfl HSX.out rfl) rfl ?_
  exact ⟨g, c, rfl, ⟨HD9.out, fun q hq => by cases hq; have := HG.out; simp; omega⟩, set5_below HB9.out (Nat.le_succ _) _ _ _ _ _⟩
set_option maxHeartbeats 8000000 in
set_option maxRecDepth 100000 in
theorem getn_left (wt n cap : Nat) (a : Option Addr) (next block left : Int) (y : Addr) (m mc c0 : Nat) (w : World) (hm : m ≤ 8) (hm1 : 1 ≤ m) (hc0 : c0 < 256) (hy : w.cell? y = some (.int .u8 (c0 : Int))) (hw8 : 8 ≤ wt) (hw3 : wt ≤ 300) (hn : n < wt) (x : Addr) (dt p : List UInt8) (ha : a = some x) (hD : IsBytes w (some x) n cap dt) (hP : IsBytes w (some y) m mc p) (hx : next = ((c0 % 16 : Nat) : Int)) (hf : m = 1 + min (wt - n) 7) (hwh : n + (m - 1) ≠ wt) (hbl : block ≠ 0) (hl2 : 2 ≤ left) (hl5 : left ≤ 255) :
    Calls Try.prog 38 #[gtV (wt : Int) a n cap next block left, .slice (some y) m mc] w fun e w' => ∃ g c, e = .returned (.tuple #[gtV (wt : Int) (some ⟨g, 0, none⟩) (n + (m - 1)) c (((c0 % 16 + 1) % 16 : Nat) : Int) block (left - 1), .slice none 0 0, .slice none 0 0, .int .i64 0]) ∧ FB w w' (some ⟨g, 0, none⟩) (n + (m - 1)) c (dt ++ p.drop 1) ∧ Below w.heap.size w w' := by
  obtain ⟨hA, hZ, hB⟩ := two5 w 44 (.int .i64 (wt : Int)) (.slice a n cap) (.int .i64 next) (.int .i64 block) (.int .i64 left) (.int .i64 0) (.slice none 0 0) (.int .i64 0) (.int .i64 0) (.int .i64 0)
  have HA := Hid.mk hA
  have HZ := Hid.mk hZ
  have HB := Hid.mk hB
  have HLO := Hid.mk (fun W (h : Below w.heap.size w W) => lower_any y m mc c0 W (by omega) hc0 (cell_kept h hy))
  obtain ⟨r, hr⟩ : ∃ r, r = c0 % 16 := ⟨_, rfl⟩
  rw [← hr] at HLO
  obtain ⟨d, hde⟩ : ∃ d, d = wt - n := ⟨_, rfl⟩
  have hd : (wt : Int) - (n : Int) = (d : Int) := by omega
  have hw0 : ((wt : Int) == 0) = false := by simp; omega
  have hd3 : (d : Int) ≤ 300 := by omega
  have hwt3 : (wt : Int) ≤ 300 := by omega
  have hn3 : (n : Int) ≤ 300 := by omega
  obtain ⟨mn, hmn⟩ : ∃ mn, mn = min d 7 := ⟨_, rfl⟩
  have hmin : (if (7 : Int) < (d : Int) then (7 : Int) else (d : Int)) = (mn : Int) := by split <;> omega
  have hmin2 : min (d : Int) 7 = (mn : Int) := by omega
  have hmn7 : (mn : Int) ≤ 7 := by omega
  have hm8 : (m : Int) ≤ 8 := by omega
  rw [← hr] at hx
  subst hx
  have hf' : ((m : Int) != 1 + (mn : Int)) = false := by simp; omega
  have hmc : m ≤ mc := hP.2.1
  have hm2 : 2 ≤ m := by omega
  have hmc1 : 1 < mc := by omega
  have hmc3 : ¬ mc = 1 := by omega
  have hmc2 : (1 : Int) < (mc : Int) := by omega
  have hm0 : (1 : Int) ≤ (m : Int) := by omega
  have hm3 : 1 ≤ m := by omega
  obtain ⟨i0, hi, hz0, hz1, hz2⟩ := info_parts info_u8
  have HCL := Hid.mk (fun W (h : Below w.heap.size w W) => cloneBy_some x n cap dt W (isBytes_below hD h) (by omega))
  have HCC : Hid (∀ W : World, Below w.heap.size w W → ∀ q u, (cellsOf (p.drop 1))[q]? = some u → W.cell? ((⟨y.block, y.off + 1, none⟩ : Addr).add q) = some u) := Hid.mk (fun W h => by
    have h1 := isBytes_cut hP 1 m (by omega) (Nat.le_refl _)
    rw [List.take_of_length_le (by rw [List.length_drop]; have := hP.1; omega), add1P] at h1
    exact bytes_cells (isBytes_below h1 h))
  have HCN : Hid ((cellsOf (p.drop 1)).length = (m - 1) * 1) := Hid.mk (by rw [cellsOf_length, List.length_drop, hP.1, Nat.mul_one])
  have HAP : Hid (cellsOf dt ++ cellsOf (p.drop 1) = cellsOf (dt ++ p.drop 1)) := Hid.mk (cellsOf_append _ _).symm
  obtain ⟨NT, hNT⟩ : ∃ NT, NT = n + (m - 1) := ⟨_, rfl⟩
  have hNT3 : (NT : Int) ≤ 308 := by omega
  have hn300 : n ≤ 300 := by omega
  subst ha
  generalize dt ++ p.drop 1 = DT at *
  generalize p.drop 1 = PD at *
  have hcmp : ((NT : Int) == (wt : Int)) = false := by simp; omega
  obtain ⟨N2, hN2⟩ : ∃ N2, N2 = (r + 1) % 16 := ⟨_, rfl⟩
  have hr0 : ((r : Int) + 1).tmod 16 = (N2 : Int) := by
    rw [Int.tmod_eq_emod_of_nonneg (by omega)]; omega
  have hrw : IntKind.i64.wrap (((r : Int) + 1).tmod 16) = (N2 : Int) := by
    rw [hr0, IntKind.wrap_i64]; omega
  have hr15 : (r : Int) ≤ 15 := by omega
  have hN2' : (N2 : Int) ≤ 15 := by omega
  rw [← hr, ← hN2]
  have HNT0 : Hid (NT = n + (m - 1)) := Hid.mk hNT
  have hb0 : (block != 0) = true := by simp; omega
  have hb1 : (block == 0) = false := by simp; omega
  have hl2 : (left - 1 == 0) = false := by simp; omega
  rw [← HNT0.out]
  clear hf hr hy hde hmn hD hP hwh hN2
  clear hA hZ hB
  unfold gtV
  go_enter Try.func38, Try.ntmps38
  go_wp2_with fail
  generalize ((w.alloc (.cells #[.int .i64 (wt : Int), .slice (some x) n cap, .int .i64 (r : Int), .int .i64 block, .int .i64 left] 44)).alloc (.cells #[.int .i64 0, .slice none 0 0, .int .i64 0, .int .i64 0, .int .i64 0] 44)) = W0 at *
  obtain ⟨a0, a1, a2, a3, a4⟩ := HA.out.cells
  go_quiet (((go_at_call 46; refine Calls.quiet_of_same (HLO.out _ (drP HB.out _)))))
  have hbq : Below W0.heap.size W0 (W0.drewN nq) := drP (Below.refl _ _) nq
  have HA1 := Hid.mk (HA.out.kept hbq)
  have HZ1 := Hid.mk (HZ.out.kept hbq)
  have HB1 := Hid.mk (bl2 HB.out hbq)
  generalize W0.drewN nq = W1 at *
  clear hbq HA HZ HB HLO a0 a1 a2 a3 a4
  obtain ⟨a0, a1, a2, a3, a4⟩ := HA1.out.cells
  go_wp2_with fail
  have HK : Hid (∀ W : World, Below W1.heap.size W1 W → W.cell? ⟨w.heap.size, 1, none⟩ = some (.slice (some x) n cap)) := Hid.mk (fun W hb => (HA1.out.kept hb).cells.2.1)
  have HCW := Hid.mk (HCL.out _ (bl2 HB1.out (dwG W1)))
  go_region_held3 (fun W => W.cell? ⟨w.heap.size, 1, none⟩ = some (.slice (some x) n cap)) (with_reducible first | exact HK.out _ (dwG _) | exact HK.out _ HB5.out | exact HK.out _ HB6.out) (first
    | (go_at_call 31; with_reducible refine HCW.out.mono ?_; rintro e w5 ⟨gc, cc, rfl, hown, hgc, hb5⟩
       have HB5 := Hid.mk (bl2 (dwG W1) hb5)
       have HO5 := Hid.mk hown
       clear hown hgc hb5)
    | (refine step_append_lies _ rfl (.tmp 38) (.tmp 40) 22 rfl W1.drew.heap.size 5 i0 (.int .u8 0) 1 1 Try.underlying22 hi hz0 hz1 hz2 rfl (by decide) _ _ _ rfl HO5.out ⟨y.block, y.off + 1, none⟩ (m - 1) (mc - 1) (cellsOf PD) rfl HCN.out (HCC.out _ (bl2 HB1.out HB5.out)) (by intro u hu; simp [cellsOf] at hu; obtain ⟨c, -, rfl⟩ := hu; rfl) (by omega) (by unfold maxLen; omega) (by omega) (by have := HB5.out.size; simp; omega) _ rfl ?_
       intro g c w6 hown6 hgrow6 _ _
       rw [HAP.out, ← hNT] at hown6
       have HO6 := Hid.mk hown6
       have HG6 : Hid (W1.heap.size ≤ g) := Hid.mk (own_geP hown6)
       have HB6 := Hid.mk (Below.grown HB5.out hgrow6 HB5.out.size (fun q hq => (HO5.out.lt q hq).1))
       clear hown6 hgrow6))
  rw [← hNT]
  have HA6 := Hid.mk (HA1.out.kept HB6.out)
  have HZ6 := Hid.mk (HZ1.out.kept HB6.out)
  have HBW := Hid.mk (bl2 HB1.out HB6.out)
  have HG : Hid (w.heap.size + 1 < g) := Hid.mk (by have := HZ1.out.lt; have := HG6.out; omega)
  have HD6 := Hid.mk (isBytes_ownG HO6.out)
  have HNT := Hid.mk hNT
  clear hNT a0 a1 a2 a3 a4 HA1 HZ1 HB1 HB5 HB6 HO5 HO6 HCL HCC HCW HCN HAP HG6 HK hf' hmin hmin2
  obtain ⟨a0, a1, a2, a3, a4⟩ := HA6.out.cells
  have f1 := HA6.out.frozen 1
  have hA7 := (HA6.out.set (.slice (some ⟨g, 0, none⟩) NT c)).1.2.1
  obtain ⟨-, -, b2, b3, b4⟩ := hA7.cells
  have f2 := hA7.frozen 2
  have hA8 := (hA7.set (.int .i64 (N2 : Int))).1.2.2
  obtain ⟨c0', c1', c2', c3', c4'⟩ := hA8.cells
  have hsz : w.heap.size + 1 ≠ w.heap.size := by omega
  have hZ8 := (HZ6.out.far hsz 1 (.slice (some ⟨g, 0, none⟩) NT c)).far hsz 2 (.int .i64 (N2 : Int))
  have hB8 := (HBW.out.setCell (p := ⟨w.heap.size, 1, none⟩) (Nat.le_refl _) (.slice (some ⟨g, 0, none⟩) NT c)).setCell (p := ⟨w.heap.size, 2, none⟩) (Nat.le_refl _) (.int .i64 (N2 : Int))
  have hD8 := isBytes_set (isBytes_set HD6.out (show g ≠ w.heap.size by have := HG.out; omega) 1 (.slice (some ⟨g, 0, none⟩) NT c)) (show g ≠ w.heap.size by have := HG.out; omega) 2 (.int .i64 (N2 : Int))
  have f4 := hA8.frozen 4
  have hA9 := (hA8.set (.int .i64 (left - 1))).2.2
  obtain ⟨d0', d1', d2', d3', d4'⟩ := hA9.cells
  have hZ9 := hZ8.far hsz 4 (.int .i64 (left - 1))
  have hB9 := hB8.setCell (p := ⟨w.heap.size, 4, none⟩) (Nat.le_refl _) (.int .i64 (left - 1))
  have hD9 := isBytes_set hD8 (show g ≠ w.heap.size by have := HG.out; omega) 4 (.int .i64 (left - 1))
  obtain ⟨⟨z0, z1, z2, z3, z4⟩, ⟨y0, y1, y2, y3, y4⟩, ⟨p1, q1⟩, ⟨p2, q2⟩, ⟨p3, q3⟩, ⟨p4, q4⟩, hSX⟩ := hZ9.ready (.int .i64 (wt : Int)) (.slice (some ⟨g, 0, none⟩) NT c) (.int .i64 (N2 : Int)) (.int .i64 block) (.int .i64 (left - 1))
  have HSX := Hid.mk hSX
  have HB9 := Hid.mk hB9
  have HD9 := Hid.mk (isBytes_set5 hD9 (show g ≠ w.heap.size + 1 by have := HG.out; omega) (.int .i64 (wt : Int)) (.slice (some ⟨g, 0, none⟩) NT c) (.int .i64 (N2 : Int)) (.int .i64 block) (.int .i64 (left - 1)))
  clear hSX hA7 hA8 hZ8 hB8 hD8 HA6 HZ6 HBW HD6 hsz hA9 hZ9 hB9 hD9
  go_wp2_with fail
  refine bodyPost_ret (getn_res _ _ (w.heap.size + 1) _ _ _ _ rfl rfl rfl rfl HSX.out rfl) rfl ?_
  exact ⟨g, c, rfl, ⟨HD9.out, fun q hq => by cases hq; have := HG.out; simp; omega⟩, set5_below HB9.out (Nat.le_succ _) _ _ _ _ _⟩
set_option maxHeartbeats 8000000 in
set_option maxRecDepth 100000 in
theorem getn_flow (wt n cap bl : Nat) (a : Option Addr) (next : Int) (y : Addr) (m mc c0 : Nat) (w : World) (hm : m ≤ 8) (hm1 : 1 ≤ m) (hc0 : c0 < 256) (hy : w.cell? y = some (.int .u8 (c0 : Int))) (hw8 : 8 ≤ wt) (hw3 : wt ≤ 300) (hn : n < wt) (x : Addr) (dt p : List UInt8) (ha : a = some x) (hD : IsBytes w (some x) n cap dt) (hP : IsBytes w (some y) m mc p) (hx : next = ((c0 % 16 : Nat) : Int)) (hf : m = 1 + min (wt - n) 7) (hwh : n + (m - 1) ≠ wt) (hbl1 : 1 ≤ bl) (hbl5 : bl ≤ 255) :
    Calls Try.prog 38 #[gtV (wt : Int) a n cap next (bl : Int) 1, .slice (some y) m mc] w fun e w' => ∃ g c ga ca, e = .returned (.tuple #[gtV (wt : Int) (some ⟨g, 0, none⟩) (n + (m - 1)) c (((c0 % 16 + 1) % 16 : Nat) : Int) (bl : Int) (bl : Int), .slice (some ⟨ga, 0, none⟩) 3 ca, .slice none 0 0, .int .i64 0]) ∧ FB w w' (some ⟨g, 0, none⟩) (n + (m - 1)) c (dt ++ p.drop 1) ∧ FB w w' (some ⟨ga, 0, none⟩) 3 ca (flowL bl) ∧ Below w.heap.size w w' := by
  obtain ⟨hA, hZ, hB⟩ := two5 w 44 (.int .i64 (wt : Int)) (.slice a n cap) (.int .i64 next) (.int .i64 (bl : Int)) (.int .i64 1) (.int .i64 0) (.slice none 0 0) (.int .i64 0) (.int .i64 0) (.int .i64 0)
  have HA := Hid.mk hA
  have HZ := Hid.mk hZ
  have HB := Hid.mk hB
  have HLO := Hid.mk (fun W (h : Below w.heap.size w W) => lower_any y m mc c0 W (by omega) hc0 (cell_kept h hy))
  obtain ⟨r, hr⟩ : ∃ r, r = c0 % 16 := ⟨_, rfl⟩
  rw [← hr] at HLO
  obtain ⟨d, hde⟩ : ∃ d, d = wt - n := ⟨_, rfl⟩
  have hd : (wt : Int) - (n : Int) = (d : Int) := by omega
  have hw0 : ((wt : Int) == 0) = false := by simp; omega
  have hd3 : (d : Int) ≤ 300 := by omega
  have hwt3 : (wt : Int) ≤ 300 := by omega
  have hn3 : (n : Int) ≤ 300 := by omega
  obtain ⟨mn, hmn⟩ : ∃ mn, mn = min d 7 := ⟨_, rfl⟩
  have hmin : (if (7 : Int) < (d : Int) then (7 : Int) else (d : Int)) = (mn : Int) := by split <;> omega
  have hmin2 : min (d : Int) 7 = (mn : Int) := by omega
  have hmn7 : (mn : Int) ≤ 7 := by omega
  have hm8 : (m : Int) ≤ 8 := by omega
  rw [← hr] at hx
  subst hx
  have hf' : ((m : Int) != 1 + (mn : Int)) = false := by simp; omega
  have hmc : m ≤ mc := hP.2.1
  have hm2 : 2 ≤ m := by omega
  have hmc1 : 1 < mc := by omega
  have hmc3 : ¬ mc = 1 := by omega
  have hmc2 : (1 : Int) < (mc : Int) := by omega
  have hm0 : (1 : Int) ≤ (m : Int) := by omega
  have hm3 : 1 ≤ m := by omega
  obtain ⟨i0, hi, hz0, hz1, hz2⟩ := info_parts info_u8
  have HCL := Hid.mk (fun W (h : Below w.heap.size w W) => cloneBy_some x n cap dt W (isBytes_below hD h) (by omega))
  have HCC : Hid (∀ W : World, Below w.heap.size w W → ∀ q u, (cellsOf (p.drop 1))[q]? = some u → W.cell? ((⟨y.block, y.off + 1, none⟩ : Addr).add q) = some u) := Hid.mk (fun W h => by
    have h1 := isBytes_cut hP 1 m (by omega) (Nat.le_refl _)
    rw [List.take_of_length_le (by rw [List.length_drop]; have := hP.1; omega), add1P] at h1
    exact bytes_cells (isBytes_below h1 h))
  have HCN : Hid ((cellsOf (p.drop 1)).length = (m - 1) * 1) := Hid.mk (by rw [cellsOf_length, List.length_drop, hP.1, Nat.mul_one])
  have HAP : Hid (cellsOf dt ++ cellsOf (p.drop 1) = cellsOf (dt ++ p.drop 1)) := Hid.mk (cellsOf_append _ _).symm
  obtain ⟨NT, hNT⟩ : ∃ NT, NT = n + (m - 1) := ⟨_, rfl⟩
  have hNT3 : (NT : Int) ≤ 308 := by omega
  have hn300 : n ≤ 300 := by omega
  subst ha
  generalize dt ++ p.drop 1 = DT at *
  generalize p.drop 1 = PD at *
  have hcmp : ((NT : Int) == (wt : Int)) = false := by simp; omega
  obtain ⟨N2, hN2⟩ : ∃ N2, N2 = (r + 1) % 16 := ⟨_, rfl⟩
  have hr0 : ((r : Int) + 1).tmod 16 = (N2 : Int) := by
    rw [Int.tmod_eq_emod_of_nonneg (by omega)]; omega
  have hrw : IntKind.i64.wrap (((r : Int) + 1).tmod 16) = (N2 : Int) := by
    rw [hr0, IntKind.wrap_i64]; omega
  have hr15 : (r : Int) ≤ 15 := by omega
  have hN2' : (N2 : Int) ≤ 15 := by omega
  rw [← hr, ← hN2]
  have HNT0 : Hid (NT = n + (m - 1)) := Hid.mk hNT
  have HLT := Hid.mk (fun W => letThrough_any bl W hbl5)
  have hb0 : ((bl : Int) != 0) = true := by simp; omega
  have hb1 : ((bl : Int) == 0) = false := by simp; omega
  rw [← HNT0.out]
  clear hf hr hy hde hmn hD hP hwh hN2
  clear hA hZ hB
  unfold gtV
  go_enter Try.func38, Try.ntmps38
  go_wp2_with fail
  generalize ((w.alloc (.cells #[.int .i64 (wt : Int), .slice (some x) n cap, .int .i64 (r : Int), .int .i64 (bl : Int), .int .i64 1] 44)).alloc (.cells #[.int .i64 0, .slice none 0 0, .int .i64 0, .int .i64 0, .int .i64 0] 44)) = W0 at *
  obtain ⟨a0, a1, a2, a3, a4⟩ := HA.out.cells
  go_quiet (((go_at_call 46; refine Calls.quiet_of_same (HLO.out _ (drP HB.out _)))))
  have hbq : Below W0.heap.size W0 (W0.drewN nq) := drP (Below.refl _ _) nq
  have HA1 := Hid.mk (HA.out.kept hbq)
  have HZ1 := Hid.mk (HZ.out.kept hbq)
  have HB1 := Hid.mk (bl2 HB.out hbq)
  generalize W0.drewN nq = W1 at *
  clear hbq HA HZ HB HLO a0 a1 a2 a3 a4
  obtain ⟨a0, a1, a2, a3, a4⟩ := HA1.out.cells
  go_wp2_with fail
  have HK : Hid (∀ W : World, Below W1.heap.size W1 W → W.cell? ⟨w.heap.size, 1, none⟩ = some (.slice (some x) n cap)) := Hid.mk (fun W hb => (HA1.out.kept hb).cells.2.1)
  have HCW := Hid.mk (HCL.out _ (bl2 HB1.out (dwG W1)))
  go_region_held3 (fun W => W.cell? ⟨w.heap.size, 1, none⟩ = some (.slice (some x) n cap)) (with_reducible first | exact HK.out _ (dwG _) | exact HK.out _ HB5.out | exact HK.out _ HB6.out) (first
    | (go_at_call 31; with_reducible refine HCW.out.mono ?_; rintro e w5 ⟨gc, cc, rfl, hown, hgc, hb5⟩
       have HB5 := Hid.mk (bl2 (dwG W1) hb5)
       have HO5 := Hid.mk hown
       clear hown hgc hb5)
    | (refine step_append_lies _ rfl (.tmp 38) (.tmp 40) 22 rfl W1.drew.heap.size 5 i0 (.int .u8 0) 1 1 Try.underlying22 hi hz0 hz1 hz2 rfl (by decide) _ _ _ rfl HO5.out ⟨y.block, y.off + 1, none⟩ (m - 1) (mc - 1) (cellsOf PD) rfl HCN.out (HCC.out _ (bl2 HB1.out HB5.out)) (by intro u hu; simp [cellsOf] at hu; obtain ⟨c, -, rfl⟩ := hu; rfl) (by omega) (by unfold maxLen; omega) (by omega) (by have := HB5.out.size; simp; omega) _ rfl ?_
       intro g c w6 hown6 hgrow6 _ _
       rw [HAP.out, ← hNT] at hown6
       have HO6 := Hid.mk hown6
       have HG6 : Hid (W1.heap.size ≤ g) := Hid.mk (own_geP hown6)
       have HB6 := Hid.mk (Below.grown HB5.out hgrow6 HB5.out.size (fun q hq => (HO5.out.lt q hq).1))
       clear hown6 hgrow6))
  rw [← hNT]
  have HA6 := Hid.mk (HA1.out.kept HB6.out)
  have HZ6 := Hid.mk (HZ1.out.kept HB6.out)
  have HBW := Hid.mk (bl2 HB1.out HB6.out)
  have HG : Hid (w.heap.size + 1 < g) := Hid.mk (by have := HZ1.out.lt; have := HG6.out; omega)
  have HD6 := Hid.mk (isBytes_ownG HO6.out)
  have HNT := Hid.mk hNT
  clear hNT a0 a1 a2 a3 a4 HA1 HZ1 HB1 HB5 HB6 HO5 HO6 HCL HCC HCW HCN HAP HG6 HK hf' hmin hmin2
  obtain ⟨a0, a1, a2, a3, a4⟩ := HA6.out.cells
  have f1 := HA6.out.frozen 1
  have hA7 := (HA6.out.set (.slice (some ⟨g, 0, none⟩) NT c)).1.2.1
  obtain ⟨-, -, b2, b3, b4⟩ := hA7.cells
  have f2 := hA7.frozen 2
  have hA8 := (hA7.set (.int .i64 (N2 : Int))).1.2.2
  obtain ⟨c0', c1', c2', c3', c4'⟩ := hA8.cells
  have hsz : w.heap.size + 1 ≠ w.heap.size := by omega
  have hZ8 := (HZ6.out.far hsz 1 (.slice (some ⟨g, 0, none⟩) NT c)).far hsz 2 (.int .i64 (N2 : Int))
  have hB8 := (HBW.out.setCell (p := ⟨w.heap.size, 1, none⟩) (Nat.le_refl _) (.slice (some ⟨g, 0, none⟩) NT c)).setCell (p := ⟨w.heap.size, 2, none⟩) (Nat.le_refl _) (.int .i64 (N2 : Int))
  have hD8 := isBytes_set (isBytes_set HD6.out (show g ≠ w.heap.size by have := HG.out; omega) 1 (.slice (some ⟨g, 0, none⟩) NT c)) (show g ≠ w.heap.size by have := HG.out; omega) 2 (.int .i64 (N2 : Int))
  have f4 := hA8.frozen 4
  have hA9 := (hA8.set (.int .i64 0)).2.2
  obtain ⟨d0', d1', d2', d3', d4'⟩ := hA9.cells
  have hZ9 := hZ8.far hsz 4 (.int .i64 0)
  have hB9 := hB8.setCell (p := ⟨w.heap.size, 4, none⟩) (Nat.le_refl _) (.int .i64 0)
  have hD9 := isBytes_set hD8 (show g ≠ w.heap.size by have := HG.out; omega) 4 (.int .i64 0)
  have HA9 := Hid.mk hA9
  have HZ9 := Hid.mk hZ9
  have HB9 := Hid.mk hB9
  have HD9 := Hid.mk hD9
  clear hA7 hA8 hZ8 hB8 hD8 HA6 HZ6 HBW HD6 hA9 hZ9 hB9 hD9
  go_wp2_with fail
  generalize ((w6.setCell ⟨w.heap.size, 1, none⟩ (.slice (some ⟨g, 0, none⟩) NT c)).setCell ⟨w.heap.size, 2, none⟩ (.int .i64 (N2 : Int))).setCell ⟨w.heap.size, 4, none⟩ (.int .i64 0) = W9 at *
  clear a0 a1 a2 a3 a4 f1 b2 b3 b4 f2 c0' c1' c2' c3' c4' f4 d0' d1' d2' d3' d4'
  have HK : Hid (∀ W : World, Below W9.heap.size W9 W → W.cell? ⟨w.heap.size, 3, none⟩ = some (.int .i64 (bl : Int))) := Hid.mk (fun W hb => (HA9.out.kept hb).cells.2.2.2.1)
  have HLW := Hid.mk (HLT.out W9.drew)
  go_region_held3 (fun W => W.cell? ⟨w.heap.size, 3, none⟩ = some (.int .i64 (bl : Int))) (with_reducible first | exact HK.out _ (dwG _) | exact HK.out _ HB10.out | exact (HA10.out.set _).2.2.cells.2.2.2.1) (first
    | (go_at_call 48; with_reducible refine HLW.out.mono ?_; rintro e w10 ⟨ga, ca, rfl, hga, hDa, hb10⟩
       have HB10 := Hid.mk (bl2 (dwG W9) hb10)
       have HGA := Hid.mk (Nat.le_trans (dwG W9).size hga)
       have HDA := Hid.mk hDa
       have HA10 := Hid.mk (HA9.out.kept HB10.out)
       have e4 := HA10.out.cells.2.2.2.2
       have f5 := HA10.out.frozen 4
       clear hga hDa hb10))
  have hA11 := (HA10.out.set (.int .i64 (bl : Int))).2.2
  obtain ⟨a0, a1, a2, a3, a4⟩ := hA11.cells
  have hZ11 := (HZ9.out.kept HB10.out).far hsz 4 (.int .i64 (bl : Int))
  have hB11 := (bl2 HB9.out HB10.out).setCell (p := ⟨w.heap.size, 4, none⟩) (Nat.le_refl _) (.int .i64 (bl : Int))
  have hD11 := isBytes_set (isBytes_below HD9.out HB10.out) (show g ≠ w.heap.size by have := HG.out; omega) 4 (.int .i64 (bl : Int))
  have hzl := HZ9.out.lt
  have hE11 := isBytes_set HDA.out (show ga ≠ w.heap.size by have := HGA.out; omega) 4 (.int .i64 (bl : Int))
  obtain ⟨⟨z0, z1, z2, z3, z4⟩, ⟨y0, y1, y2, y3, y4⟩, ⟨p1, q1⟩, ⟨p2, q2⟩, ⟨p3, q3⟩, ⟨p4, q4⟩, hSX⟩ := hZ11.ready (.int .i64 (wt : Int)) (.slice (some ⟨g, 0, none⟩) NT c) (.int .i64 (N2 : Int)) (.int .i64 (bl : Int)) (.int .i64 (bl : Int))
  have HSX := Hid.mk hSX
  have HB12 := Hid.mk hB11
  have HD12 := Hid.mk (isBytes_set5 hD11 (show g ≠ w.heap.size + 1 by have := HG.out; omega) (.int .i64 (wt : Int)) (.slice (some ⟨g, 0, none⟩) NT c) (.int .i64 (N2 : Int)) (.int .i64 (bl : Int)) (.int .i64 (bl : Int)))
  have HE12 := Hid.mk (isBytes_set5 hE11 (show ga ≠ w.heap.size + 1 by have := HGA.out; omega) (.int .i64 (wt : Int)) (.slice (some ⟨g, 0, none⟩) NT c) (.int .i64 (N2 : Int)) (.int .i64 (bl : Int)) (.int .i64 (bl : Int)))
  have HGZ : Hid (w.heap.size ≤ ga) := Hid.mk (by have := HGA.out; omega)
  clear hSX hA11 hZ11 hB11 hD11 hE11 HA10 HZ9 HB9 HD9 HA9 HDA hsz HLT HLW hzl HGA HB10
  go_wp2_with fail
  refine bodyPost_ret (getn_res _ _ (w.heap.size + 1) _ _ _ _ rfl rfl rfl rfl HSX.out rfl) rfl ?_
  exact ⟨g, c, ga, ca, rfl, ⟨HD12.out, fun q hq => by cases hq; have := HG.out; simp; omega⟩, ⟨HE12.out, fun q hq => by cases hq; exact HGZ.out⟩, set5_below HB12.out (Nat.le_succ _) _ _ _ _ _⟩
end Bw
end Go.Proofs.Ytgjnfmbmndnihaa
