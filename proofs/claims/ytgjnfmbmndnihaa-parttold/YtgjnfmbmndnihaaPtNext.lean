/- What package part's Next answers. -/
import Derived.Test.YtgjnfmbmndnihaaPtTold
namespace Go.Proofs.Ytgjnfmbmndnihaa
open Go.ChangeShapes Go.WideShapes Go.ChangeAt Go.RowKit
namespace Bw
open Bm
set_option linter.unusedVariables false
theorem next_res (tmps : Array Value) (w : World) (g : Nat) (cs : Array Value) (x y : Value) (hp : tmps.getD 2 undef = .pointer (some ⟨g, 0, none⟩)) (hx : tmps.getD 3 undef = x) (hy : tmps.getD 4 undef = y) (h : w.heap[g]? = some (.cells cs 28 (0, 0))) (hs : cs.size = 5) :
    (results Try.f18 tmps).run Try.prog w = .ok (.tuple #[.agg cs, x, y]) w := by
  have hl := run_loadVar_row (P := Try.prog) w g 28 28 cs (0, 0) _ h Try.underlying28 rfl (by rw [sd_i, hs])
  have hp' : tmps[2]?.getD undef = .pointer (some ⟨g, 0, none⟩) := by simpa using hp
  have hx' : tmps[3]?.getD undef = x := by simpa using hx
  have hy' : tmps[4]?.getD undef = y := by simpa using hy
  simp [results, hp', hx', hy', asAddr, hl]
set_option maxHeartbeats 4000000 in
set_option maxRecDepth 100000 in
theorem next_bad (a : Option Addr) (n cap : Nat) (k next left : Int) (done : Bool) (w : World) (hl : n ≤ maxLen) (hE : sdE n k next left done ≠ 0) :
    Calls Try.prog 18 #[sdV a n cap k next left done] w fun e w' => e = .returned (.tuple #[sdV none 0 0 0 0 0 false, .slice none 0 0, .int .i64 (sdE n k next left done)]) ∧ Below w.heap.size w w' := by
  have HCK := Hid.mk (fun W => checkSender_any a n cap k next left done W hl)
  skip
  obtain ⟨hA, hZ, hB⟩ := two5 w 28 (.slice a n cap) (.int .i64 k) (.int .i64 next) (.int .i64 left) (.bool done) (.slice none 0 0) (.int .i64 0) (.int .i64 0) (.int .i64 0) (.bool false)
  have HA := Hid.mk hA
  have HZ := Hid.mk hZ
  have HB := Hid.mk hB
  obtain ⟨a0, a1, a2, a3, a4⟩ := hA.cells
  have hne : (sdE n k next left done != 0) = true := by simpa using hE
  clear hE
  generalize sdE n k next left done = E at *
  clear hA hZ hB hl
  unfold sdV at HCK ⊢
  go_enter Try.func18, Try.ntmps18
  go_wp2_with fail
  refine (HCK.out _).mono ?_
  rintro e w1 ⟨rfl, hb1⟩
  have HA1 := Hid.mk (HA.out.kept hb1)
  have HZ1 := Hid.mk (HZ.out.kept hb1)
  have HB1 := Hid.mk (bl2 HB.out hb1)
  clear a0 a1 a2 a3 a4 HA HZ HB HCK hb1
  obtain ⟨⟨z0, z1, z2, z3, z4⟩, ⟨y0, y1, y2, y3, y4⟩, ⟨p1, q1⟩, ⟨p2, q2⟩, ⟨p3, q3⟩, ⟨p4, q4⟩, hSX⟩ := HZ1.out.ready (.slice none 0 0) (.int .i64 0) (.int .i64 0) (.int .i64 0) (.bool false)
  have HSX := Hid.mk hSX
  clear hSX
  go_wp2_with fail
  refine bodyPost_ret (next_res _ _ (w.heap.size + 1) _ _ _ rfl rfl rfl HSX.out rfl) rfl ?_
  exact ⟨rfl, set5_below HB1.out (Nat.le_succ _) _ _ _ _ _⟩
set_option maxHeartbeats 4000000 in
set_option maxRecDepth 100000 in
theorem next_done (a : Option Addr) (n cap : Nat) (k next left : Int) (w : World) (hl : n ≤ maxLen) (hE : sdE n k next left true = 0) :
    Calls Try.prog 18 #[sdV a n cap k next left true] w fun e w' => e = .returned (.tuple #[sdV none 0 0 0 0 0 false, .slice none 0 0, .int .i64 12]) ∧ Below w.heap.size w w' := by
  have HCK := Hid.mk (fun W => checkSender_any a n cap k next left true W hl)
  rw [hE] at HCK
  obtain ⟨hA, hZ, hB⟩ := two5 w 28 (.slice a n cap) (.int .i64 k) (.int .i64 next) (.int .i64 left) (.bool true) (.slice none 0 0) (.int .i64 0) (.int .i64 0) (.int .i64 0) (.bool false)
  have HA := Hid.mk hA
  have HZ := Hid.mk hZ
  have HB := Hid.mk hB
  obtain ⟨a0, a1, a2, a3, a4⟩ := hA.cells
  clear hA hZ hB hl
  unfold sdV at HCK ⊢
  go_enter Try.func18, Try.ntmps18
  go_wp2_with fail
  refine (HCK.out _).mono ?_
  rintro e w1 ⟨rfl, hb1⟩
  have HA1 := Hid.mk (HA.out.kept hb1)
  have HZ1 := Hid.mk (HZ.out.kept hb1)
  have HB1 := Hid.mk (bl2 HB.out hb1)
  clear a0 a1 a2 a3 a4 HA HZ HB HCK hb1
  obtain ⟨a0, a1, a2, a3, a4⟩ := HA1.out.cells
  obtain ⟨⟨z0, z1, z2, z3, z4⟩, ⟨y0, y1, y2, y3, y4⟩, ⟨p1, q1⟩, ⟨p2, q2⟩, ⟨p3, q3⟩, ⟨p4, q4⟩, hSX⟩ := HZ1.out.ready (.slice none 0 0) (.int .i64 0) (.int .i64 0) (.int .i64 0) (.bool false)
  have HSX := Hid.mk hSX
  clear hSX
  go_wp2_with fail
  refine bodyPost_ret (next_res _ _ (w.heap.size + 1) _ _ _ rfl rfl rfl HSX.out rfl) rfl ?_
  exact ⟨rfl, set5_below HB1.out (Nat.le_succ _) _ _ _ _ _⟩
set_option maxHeartbeats 4000000 in
set_option maxRecDepth 100000 in
theorem next_late (a : Option Addr) (n cap : Nat) (k next : Int) (w : World) (hl : n ≤ maxLen) (hE : sdE n k next (-1) false = 0) :
    Calls Try.prog 18 #[sdV a n cap k next (-1) false] w fun e w' => e = .returned (.tuple #[sdV none 0 0 0 0 0 false, .slice none 0 0, .int .i64 12]) ∧ Below w.heap.size w w' := by
  have HCK := Hid.mk (fun W => checkSender_any a n cap k next (-1) false W hl)
  rw [hE] at HCK
  obtain ⟨hA, hZ, hB⟩ := two5 w 28 (.slice a n cap) (.int .i64 k) (.int .i64 next) (.int .i64 (-1)) (.bool false) (.slice none 0 0) (.int .i64 0) (.int .i64 0) (.int .i64 0) (.bool false)
  have HA := Hid.mk hA
  have HZ := Hid.mk hZ
  have HB := Hid.mk hB
  obtain ⟨a0, a1, a2, a3, a4⟩ := hA.cells
  clear hA hZ hB hl
  unfold sdV at HCK ⊢
  go_enter Try.func18, Try.ntmps18
  go_wp2_with fail
  refine (HCK.out _).mono ?_
  rintro e w1 ⟨rfl, hb1⟩
  have HA1 := Hid.mk (HA.out.kept hb1)
  have HZ1 := Hid.mk (HZ.out.kept hb1)
  have HB1 := Hid.mk (bl2 HB.out hb1)
  clear a0 a1 a2 a3 a4 HA HZ HB HCK hb1
  obtain ⟨a0, a1, a2, a3, a4⟩ := HA1.out.cells
  obtain ⟨⟨z0, z1, z2, z3, z4⟩, ⟨y0, y1, y2, y3, y4⟩, ⟨p1, q1⟩, ⟨p2, q2⟩, ⟨p3, q3⟩, ⟨p4, q4⟩, hSX⟩ := HZ1.out.ready (.slice none 0 0) (.int .i64 0) (.int .i64 0) (.int .i64 0) (.bool false)
  have HSX := Hid.mk hSX
  clear hSX
  go_wp2_with fail
  refine bodyPost_ret (next_res _ _ (w.heap.size + 1) _ _ _ rfl rfl rfl HSX.out rfl) rfl ?_
  exact ⟨rfl, set5_below HB1.out (Nat.le_succ _) _ _ _ _ _⟩
set_option maxHeartbeats 4000000 in
set_option maxRecDepth 100000 in
theorem next_last (a : Option Addr) (n cap : Nat) (k nx : Nat) (left : Int) (w : World) (hl : n ≤ maxLen) (hE : sdE n (k : Int) (nx : Int) left false = 0) (hlf : left ≠ -1) (hl0 : -1 ≤ left) (hl1 : left ≤ 255) (hnx : nx < 16) (x : Addr) (l : List UInt8) (ha : a = some x) (hD : IsBytes w (some x) n cap l) (hkn : k < n) (hn3 : n ≤ 300) (hla : n ≤ k + 7) :
    Calls Try.prog 18 #[sdV a n cap (k : Int) (nx : Int) left false] w fun e w' => ∃ g c gp cp, e = .returned (.tuple #[sdV (some ⟨g, 0, none⟩) n c (n : Int) ((nx + 1) % 16 : Nat) 0 true, .slice (some ⟨gp, 0, none⟩) (npL l k).length cp, .int .i64 0]) ∧ w.heap.size ≤ g ∧ w.heap.size ≤ gp ∧ IsBytes w' (some ⟨g, 0, none⟩) n c l ∧ IsBytes w' (some ⟨gp, 0, none⟩) (npL l k).length cp (npL l k) ∧ Below w.heap.size w w' := by
  have HCK := Hid.mk (fun W => checkSender_any a n cap (k : Int) (nx : Int) left false W hl)
  rw [hE] at HCK
  obtain ⟨hA, hZ, hB⟩ := two5 w 28 (.slice a n cap) (.int .i64 (k : Int)) (.int .i64 (nx : Int)) (.int .i64 left) (.bool false) (.slice none 0 0) (.int .i64 0) (.int .i64 0) (.int .i64 0) (.bool false)
  have HA := Hid.mk hA
  have HZ := Hid.mk hZ
  have HB := Hid.mk hB
  obtain ⟨a0, a1, a2, a3, a4⟩ := hA.cells
  have hxl := isBytes_lt hD (by omega)
  have HNP := Hid.mk (fun W (h : Below w.heap.size w W) => nextPart_any x n cap k l W (isBytes_below hD h) hkn hn3)
  have HCL := Hid.mk (fun W (h : Below w.heap.size w W) => cloneBy_some x n cap l W (isBytes_below hD h) (by omega))
  have hLB := fun W => leftBehind_any left W hl0 hl1
  subst ha
  have hlf' : (left == -1) = false := by simpa using hlf
  obtain ⟨en, hen⟩ : ∃ en, en = n := ⟨_, rfl⟩
  have hmin : (if (n : Int) < (k : Int) + 7 then (n : Int) else (k : Int) + 7) = (en : Int) := by split <;> omega
  have hmin2 : min ((k : Int) + 7) (n : Int) = (en : Int) := by omega
  obtain ⟨N2, hN2⟩ : ∃ N2, N2 = (nx + 1) % 16 := ⟨_, rfl⟩
  have hr0 : ((nx : Int) + 1).tmod 16 = (N2 : Int) := by
    rw [Int.tmod_eq_emod_of_nonneg (by omega)]; omega
  have hr : IntKind.i64.wrap (((nx : Int) + 1).tmod 16) = (N2 : Int) := by
    rw [hr0, IntKind.wrap_i64]; omega
  have hnx' : (nx : Int) ≤ 15 := by omega
  have hN2' : (N2 : Int) ≤ 15 := by omega
  have hk5 : (k : Int) ≤ 300 := by omega
  have hn5 : (n : Int) ≤ 300 := by omega
  have hen5 : (en : Int) ≤ 300 := by omega
  have hcmp : ((en : Int) == (n : Int)) = true := by rw [hen]; simp
  have HEN : Hid ((en : Int) = (n : Int)) := Hid.mk (by rw [hen])
  rw [← hN2]
  have HNE : Hid (0 < (npL l k).length) := Hid.mk (by rw [npL_len]; omega)
  generalize npL l k = NL at *
  generalize lbI left = LB at *
  clear hD hlf hen hN2 hl0 hl1 hla
  clear hA hZ hB hl
  unfold sdV at HCK ⊢
  go_enter Try.func18, Try.ntmps18
  go_wp2_with fail
  refine (HCK.out _).mono ?_
  rintro e w1 ⟨rfl, hb1⟩
  have HA1 := Hid.mk (HA.out.kept hb1)
  have HZ1 := Hid.mk (HZ.out.kept hb1)
  have HB1 := Hid.mk (bl2 HB.out hb1)
  clear a0 a1 a2 a3 a4 HA HZ HB HCK hb1
  obtain ⟨a0, a1, a2, a3, a4⟩ := HA1.out.cells
  go_wp2_with fail
  refine (HNP.out _ HB1.out).mono ?_
  rintro e w2 ⟨gp, cp, rfl, hgp, hYp, hb2⟩
  have HA2 := Hid.mk (HA1.out.kept hb2)
  have HZ2 := Hid.mk (HZ1.out.kept hb2)
  have HB2 := Hid.mk (bl2 HB1.out hb2)
  have HYP := Hid.mk hYp
  have HGP : Hid (w.heap.size + 1 < gp) := Hid.mk (Nat.lt_of_lt_of_le HZ1.out.lt hgp)
  clear a0 a1 a2 a3 a4 HA1 HZ1 HB1 HNP hgp hYp hb2
  obtain ⟨a0, a1, a2, a3, a4⟩ := HA2.out.cells
  go_wp2_with fail
  refine (HCL.out _ HB2.out).mono ?_
  rintro e w3 ⟨g, c, rfl, hown, hg, hb3⟩
  have HA3 := Hid.mk (HA2.out.kept hb3)
  have HZ3 := Hid.mk (HZ2.out.kept hb3)
  have HB3 := Hid.mk (bl2 HB2.out hb3)
  have HG : Hid (w.heap.size + 1 < g) := Hid.mk (Nat.lt_of_lt_of_le HZ2.out.lt hg)
  have HO := Hid.mk (isBytes_ownG hown)
  have HYP3 := Hid.mk (isBytes_below HYP.out hb3)
  clear a0 a1 a2 a3 a4 HA2 HZ2 HB2 HCL hown hg hb3 HYP
  obtain ⟨a0, -, -, -, -⟩ := HA3.out.cells
  have f0 := HA3.out.frozen 0
  have hA4 := (HA3.out.set (.slice (some ⟨g, 0, none⟩) n c)).1.1
  obtain ⟨b0, b1, -, -, -⟩ := hA4.cells
  have f1 := hA4.frozen 1
  have hA5 := (hA4.set (.int .i64 (en : Int))).1.2.1
  obtain ⟨-, -, c2, -, -⟩ := hA5.cells
  have f2 := hA5.frozen 2
  have hA6 := (hA5.set (.int .i64 (N2 : Int))).1.2.2
  obtain ⟨-, -, -, d3, -⟩ := hA6.cells
  have HA6 := Hid.mk hA6
  have hsz : w.heap.size + 1 ≠ w.heap.size := by omega
  have HZ6 := Hid.mk (((HZ3.out.far hsz 0 (.slice (some ⟨g, 0, none⟩) n c)).far hsz 1 (.int .i64 (en : Int))).far hsz 2 (.int .i64 (N2 : Int)))
  have HB6 := Hid.mk (((HB3.out.setCell (p := ⟨w.heap.size, 0, none⟩) (Nat.le_refl _) (.slice (some ⟨g, 0, none⟩) n c)).setCell (p := ⟨w.heap.size, 1, none⟩) (Nat.le_refl _) (.int .i64 (en : Int))).setCell (p := ⟨w.heap.size, 2, none⟩) (Nat.le_refl _) (.int .i64 (N2 : Int)))
  have HO6 := Hid.mk (isBytes_set (isBytes_set (isBytes_set HO.out (show g ≠ w.heap.size by have := HG.out; omega) 0 (.slice (some ⟨g, 0, none⟩) n c)) (show g ≠ w.heap.size by have := HG.out; omega) 1 (.int .i64 (en : Int))) (show g ≠ w.heap.size by have := HG.out; omega) 2 (.int .i64 (N2 : Int)))
  have HY6 := Hid.mk (isBytes_set (isBytes_set (isBytes_set HYP3.out (show gp ≠ w.heap.size by have := HGP.out; omega) 0 (.slice (some ⟨g, 0, none⟩) n c)) (show gp ≠ w.heap.size by have := HGP.out; omega) 1 (.int .i64 (en : Int))) (show gp ≠ w.heap.size by have := HGP.out; omega) 2 (.int .i64 (N2 : Int)))
  clear hA4 hA5 hA6 HA3 HZ3 HB3 HO HYP3
  go_wp2_with fail
  refine (hLB _).mono ?_
  rintro e w4 ⟨rfl, hw4⟩
  rw [hw4]
  clear hw4 hLB a0 f0 b0 b1 f1 c2 f2 d3 hr hr0 hmin hmin2
  generalize ((w3.setCell ⟨w.heap.size, 0, none⟩ (.slice (some ⟨g, 0, none⟩) n c)).setCell ⟨w.heap.size, 1, none⟩ (.int .i64 (en : Int))).setCell ⟨w.heap.size, 2, none⟩ (.int .i64 (N2 : Int)) = W6 at *
  obtain ⟨-, -, -, d3, d4⟩ := HA6.out.cells
  have f3 := HA6.out.frozen 3
  have hA7 := (HA6.out.set (.int .i64 LB)).2.1
  obtain ⟨e0, e1, e2, e3, e4⟩ := hA7.cells
  have f4 := hA7.frozen 4
  have hA8 := (hA7.set (.bool true)).2.2
  obtain ⟨-, -, -, g3, -⟩ := hA8.cells
  have f5 := hA8.frozen 3
  have hA9 := (hA8.set (.int .i64 0)).2.1
  obtain ⟨h0, h1, h2, h3, h4⟩ := hA9.cells
  have HB9 := Hid.mk (((HB6.out.setCell (p := ⟨w.heap.size, 3, none⟩) (Nat.le_refl _) (.int .i64 LB)).setCell (p := ⟨w.heap.size, 4, none⟩) (Nat.le_refl _) (.bool true)).setCell (p := ⟨w.heap.size, 3, none⟩) (Nat.le_refl _) (.int .i64 0))
  have HO9 := Hid.mk (isBytes_set5 (isBytes_set (isBytes_set (isBytes_set HO6.out (show g ≠ w.heap.size by have := HG.out; omega) 3 (.int .i64 LB)) (show g ≠ w.heap.size by have := HG.out; omega) 4 (.bool true)) (show g ≠ w.heap.size by have := HG.out; omega) 3 (.int .i64 0)) (show g ≠ w.heap.size + 1 by have := HG.out; omega) (.slice (some ⟨g, 0, none⟩) n c) (.int .i64 (en : Int)) (.int .i64 (N2 : Int)) (.int .i64 0) (.bool true))
  have HY9 := Hid.mk (isBytes_set5 (isBytes_set (isBytes_set (isBytes_set HY6.out (show gp ≠ w.heap.size by have := HGP.out; omega) 3 (.int .i64 LB)) (show gp ≠ w.heap.size by have := HGP.out; omega) 4 (.bool true)) (show gp ≠ w.heap.size by have := HGP.out; omega) 3 (.int .i64 0)) (show gp ≠ w.heap.size + 1 by have := HGP.out; omega) (.slice (some ⟨g, 0, none⟩) n c) (.int .i64 (en : Int)) (.int .i64 (N2 : Int)) (.int .i64 0) (.bool true))
  obtain ⟨⟨z0, z1, z2, z3, z4⟩, ⟨y0, y1, y2, y3, y4⟩, ⟨p1, q1⟩, ⟨p2, q2⟩, ⟨p3, q3⟩, ⟨p4, q4⟩, hSX⟩ := (((HZ6.out.far hsz 3 (.int .i64 LB)).far hsz 4 (.bool true)).far hsz 3 (.int .i64 0)).ready (.slice (some ⟨g, 0, none⟩) n c) (.int .i64 (en : Int)) (.int .i64 (N2 : Int)) (.int .i64 0) (.bool true)
  have HSX := Hid.mk hSX
  clear hSX hA7 hA8 hA9 HA6 HZ6 HB6 HO6 HY6 hsz
  go_wp2_with fail
  refine bodyPost_ret (next_res _ _ (w.heap.size + 1) _ _ _ rfl rfl rfl HSX.out rfl) rfl ?_
  exact ⟨g, c, gp, cp, by rw [HEN.out]; rfl, by have := HG.out; omega, by have := HGP.out; omega, HO9.out, HY9.out, set5_below HB9.out (Nat.le_succ _) _ _ _ _ _⟩
set_option maxHeartbeats 4000000 in
set_option maxRecDepth 100000 in
theorem next_more (a : Option Addr) (n cap : Nat) (k nx : Nat) (left : Int) (w : World) (hl : n ≤ maxLen) (hE : sdE n (k : Int) (nx : Int) left false = 0) (hlf : left ≠ -1) (hl0 : -1 ≤ left) (hl1 : left ≤ 255) (hnx : nx < 16) (x : Addr) (l : List UInt8) (ha : a = some x) (hD : IsBytes w (some x) n cap l) (hkn : k < n) (hn3 : n ≤ 300) (hla : k + 7 < n) :
    Calls Try.prog 18 #[sdV a n cap (k : Int) (nx : Int) left false] w fun e w' => ∃ g c gp cp, e = .returned (.tuple #[sdV (some ⟨g, 0, none⟩) n c ((k + 7 : Nat) : Int) ((nx + 1) % 16 : Nat) (lbI left) false, .slice (some ⟨gp, 0, none⟩) (npL l k).length cp, .int .i64 0]) ∧ w.heap.size ≤ g ∧ w.heap.size ≤ gp ∧ IsBytes w' (some ⟨g, 0, none⟩) n c l ∧ IsBytes w' (some ⟨gp, 0, none⟩) (npL l k).length cp (npL l k) ∧ Below w.heap.size w w' := by
  have HCK := Hid.mk (fun W => checkSender_any a n cap (k : Int) (nx : Int) left false W hl)
  rw [hE] at HCK
  obtain ⟨hA, hZ, hB⟩ := two5 w 28 (.slice a n cap) (.int .i64 (k : Int)) (.int .i64 (nx : Int)) (.int .i64 left) (.bool false) (.slice none 0 0) (.int .i64 0) (.int .i64 0) (.int .i64 0) (.bool false)
  have HA := Hid.mk hA
  have HZ := Hid.mk hZ
  have HB := Hid.mk hB
  obtain ⟨a0, a1, a2, a3, a4⟩ := hA.cells
  have hxl := isBytes_lt hD (by omega)
  have HNP := Hid.mk (fun W (h : Below w.heap.size w W) => nextPart_any x n cap k l W (isBytes_below hD h) hkn hn3)
  have HCL := Hid.mk (fun W (h : Below w.heap.size w W) => cloneBy_some x n cap l W (isBytes_below hD h) (by omega))
  have hLB := fun W => leftBehind_any left W hl0 hl1
  subst ha
  have hlf' : (left == -1) = false := by simpa using hlf
  obtain ⟨en, hen⟩ : ∃ en, en = k + 7 := ⟨_, rfl⟩
  have hmin : (if (n : Int) < (k : Int) + 7 then (n : Int) else (k : Int) + 7) = (en : Int) := by split <;> omega
  have hmin2 : min ((k : Int) + 7) (n : Int) = (en : Int) := by omega
  obtain ⟨N2, hN2⟩ : ∃ N2, N2 = (nx + 1) % 16 := ⟨_, rfl⟩
  have hr0 : ((nx : Int) + 1).tmod 16 = (N2 : Int) := by
    rw [Int.tmod_eq_emod_of_nonneg (by omega)]; omega
  have hr : IntKind.i64.wrap (((nx : Int) + 1).tmod 16) = (N2 : Int) := by
    rw [hr0, IntKind.wrap_i64]; omega
  have hnx' : (nx : Int) ≤ 15 := by omega
  have hN2' : (N2 : Int) ≤ 15 := by omega
  have hk5 : (k : Int) ≤ 300 := by omega
  have hn5 : (n : Int) ≤ 300 := by omega
  have hen5 : (en : Int) ≤ 300 := by omega
  have hcmp : ((en : Int) == (n : Int)) = false := by simp; omega
  have HEN : Hid ((en : Int) = ((k + 7 : Nat) : Int)) := Hid.mk (by rw [hen])
  rw [← hN2]
  have HNE : Hid (0 < (npL l k).length) := Hid.mk (by rw [npL_len]; omega)
  generalize npL l k = NL at *
  generalize lbI left = LB at *
  clear hD hlf hen hN2 hl0 hl1 hla
  clear hA hZ hB hl
  unfold sdV at HCK ⊢
  go_enter Try.func18, Try.ntmps18
  go_wp2_with fail
  refine (HCK.out _).mono ?_
  rintro e w1 ⟨rfl, hb1⟩
  have HA1 := Hid.mk (HA.out.kept hb1)
  have HZ1 := Hid.mk (HZ.out.kept hb1)
  have HB1 := Hid.mk (bl2 HB.out hb1)
  clear a0 a1 a2 a3 a4 HA HZ HB HCK hb1
  obtain ⟨a0, a1, a2, a3, a4⟩ := HA1.out.cells
  go_wp2_with fail
  refine (HNP.out _ HB1.out).mono ?_
  rintro e w2 ⟨gp, cp, rfl, hgp, hYp, hb2⟩
  have HA2 := Hid.mk (HA1.out.kept hb2)
  have HZ2 := Hid.mk (HZ1.out.kept hb2)
  have HB2 := Hid.mk (bl2 HB1.out hb2)
  have HYP := Hid.mk hYp
  have HGP : Hid (w.heap.size + 1 < gp) := Hid.mk (Nat.lt_of_lt_of_le HZ1.out.lt hgp)
  clear a0 a1 a2 a3 a4 HA1 HZ1 HB1 HNP hgp hYp hb2
  obtain ⟨a0, a1, a2, a3, a4⟩ := HA2.out.cells
  go_wp2_with fail
  refine (HCL.out _ HB2.out).mono ?_
  rintro e w3 ⟨g, c, rfl, hown, hg, hb3⟩
  have HA3 := Hid.mk (HA2.out.kept hb3)
  have HZ3 := Hid.mk (HZ2.out.kept hb3)
  have HB3 := Hid.mk (bl2 HB2.out hb3)
  have HG : Hid (w.heap.size + 1 < g) := Hid.mk (Nat.lt_of_lt_of_le HZ2.out.lt hg)
  have HO := Hid.mk (isBytes_ownG hown)
  have HYP3 := Hid.mk (isBytes_below HYP.out hb3)
  clear a0 a1 a2 a3 a4 HA2 HZ2 HB2 HCL hown hg hb3 HYP
  obtain ⟨a0, -, -, -, -⟩ := HA3.out.cells
  have f0 := HA3.out.frozen 0
  have hA4 := (HA3.out.set (.slice (some ⟨g, 0, none⟩) n c)).1.1
  obtain ⟨b0, b1, -, -, -⟩ := hA4.cells
  have f1 := hA4.frozen 1
  have hA5 := (hA4.set (.int .i64 (en : Int))).1.2.1
  obtain ⟨-, -, c2, -, -⟩ := hA5.cells
  have f2 := hA5.frozen 2
  have hA6 := (hA5.set (.int .i64 (N2 : Int))).1.2.2
  obtain ⟨-, -, -, d3, -⟩ := hA6.cells
  have HA6 := Hid.mk hA6
  have hsz : w.heap.size + 1 ≠ w.heap.size := by omega
  have HZ6 := Hid.mk (((HZ3.out.far hsz 0 (.slice (some ⟨g, 0, none⟩) n c)).far hsz 1 (.int .i64 (en : Int))).far hsz 2 (.int .i64 (N2 : Int)))
  have HB6 := Hid.mk (((HB3.out.setCell (p := ⟨w.heap.size, 0, none⟩) (Nat.le_refl _) (.slice (some ⟨g, 0, none⟩) n c)).setCell (p := ⟨w.heap.size, 1, none⟩) (Nat.le_refl _) (.int .i64 (en : Int))).setCell (p := ⟨w.heap.size, 2, none⟩) (Nat.le_refl _) (.int .i64 (N2 : Int)))
  have HO6 := Hid.mk (isBytes_set (isBytes_set (isBytes_set HO.out (show g ≠ w.heap.size by have := HG.out; omega) 0 (.slice (some ⟨g, 0, none⟩) n c)) (show g ≠ w.heap.size by have := HG.out; omega) 1 (.int .i64 (en : Int))) (show g ≠ w.heap.size by have := HG.out; omega) 2 (.int .i64 (N2 : Int)))
  have HY6 := Hid.mk (isBytes_set (isBytes_set (isBytes_set HYP3.out (show gp ≠ w.heap.size by have := HGP.out; omega) 0 (.slice (some ⟨g, 0, none⟩) n c)) (show gp ≠ w.heap.size by have := HGP.out; omega) 1 (.int .i64 (en : Int))) (show gp ≠ w.heap.size by have := HGP.out; omega) 2 (.int .i64 (N2 : Int)))
  clear hA4 hA5 hA6 HA3 HZ3 HB3 HO HYP3
  go_wp2_with fail
  refine (hLB _).mono ?_
  rintro e w4 ⟨rfl, hw4⟩
  rw [hw4]
  clear hw4 hLB a0 f0 b0 b1 f1 c2 f2 d3 hr hr0 hmin hmin2
  generalize ((w3.setCell ⟨w.heap.size, 0, none⟩ (.slice (some ⟨g, 0, none⟩) n c)).setCell ⟨w.heap.size, 1, none⟩ (.int .i64 (en : Int))).setCell ⟨w.heap.size, 2, none⟩ (.int .i64 (N2 : Int)) = W6 at *
  obtain ⟨-, -, -, d3, d4⟩ := HA6.out.cells
  have f3 := HA6.out.frozen 3
  have hA7 := (HA6.out.set (.int .i64 LB)).2.1
  obtain ⟨e0, e1, e2, e3, e4⟩ := hA7.cells
  have HB9 := Hid.mk (HB6.out.setCell (p := ⟨w.heap.size, 3, none⟩) (Nat.le_refl _) (.int .i64 LB))
  have HO9 := Hid.mk (isBytes_set5 (isBytes_set HO6.out (show g ≠ w.heap.size by have := HG.out; omega) 3 (.int .i64 LB)) (show g ≠ w.heap.size + 1 by have := HG.out; omega) (.slice (some ⟨g, 0, none⟩) n c) (.int .i64 (en : Int)) (.int .i64 (N2 : Int)) (.int .i64 LB) (.bool false))
  have HY9 := Hid.mk (isBytes_set5 (isBytes_set HY6.out (show gp ≠ w.heap.size by have := HGP.out; omega) 3 (.int .i64 LB)) (show gp ≠ w.heap.size + 1 by have := HGP.out; omega) (.slice (some ⟨g, 0, none⟩) n c) (.int .i64 (en : Int)) (.int .i64 (N2 : Int)) (.int .i64 LB) (.bool false))
  obtain ⟨⟨z0, z1, z2, z3, z4⟩, ⟨y0, y1, y2, y3, y4⟩, ⟨p1, q1⟩, ⟨p2, q2⟩, ⟨p3, q3⟩, ⟨p4, q4⟩, hSX⟩ := (HZ6.out.far hsz 3 (.int .i64 LB)).ready (.slice (some ⟨g, 0, none⟩) n c) (.int .i64 (en : Int)) (.int .i64 (N2 : Int)) (.int .i64 LB) (.bool false)
  have HSX := Hid.mk hSX
  clear hSX hA7 HA6 HZ6 HB6 HO6 HY6 hsz
  go_wp2_with fail
  refine bodyPost_ret (next_res _ _ (w.heap.size + 1) _ _ _ rfl rfl rfl HSX.out rfl) rfl ?_
  exact ⟨g, c, gp, cp, by rw [HEN.out]; rfl, by have := HG.out; omega, by have := HGP.out; omega, HO9.out, HY9.out, set5_below HB9.out (Nat.le_succ _) _ _ _ _ _⟩
end Bw
end Go.Proofs.Ytgjnfmbmndnihaa
