/- What package part's Begin answers. -/
import Derived.Test.YtgjnfmbmndnihaaPtVar
import Derived.Deep.RegionHeld3
namespace Go.Proofs.Ytgjnfmbmndnihaa
open Go.ChangeShapes Go.WideShapes Go.ChangeAt Go.RowKit
namespace Bw
open Bm
set_option linter.unusedVariables false
theorem begin_res (tmps : Array Value) (w : World) (g : Nat) (cs : Array Value) (x y : Value) (hp : tmps.getD 2 undef = .pointer (some ⟨g, 0, none⟩)) (hx : tmps.getD 3 undef = x) (hy : tmps.getD 4 undef = y) (h : w.heap[g]? = some (.cells cs 28 (0, 0))) (hs : cs.size = 5) :
    (results Try.f10 tmps).run Try.prog w = .ok (.tuple #[.agg cs, x, y]) w := by
  have hl := run_loadVar_row (P := Try.prog) w g 28 28 cs (0, 0) _ h Try.underlying28 rfl (by rw [sd_i, hs])
  have hp' : tmps[2]?.getD undef = .pointer (some ⟨g, 0, none⟩) := by simpa using hp
  have hx' : tmps[3]?.getD undef = x := by simpa using hx
  have hy' : tmps[4]?.getD undef = y := by simpa using hy
  simp [results, hp', hx', hy', asAddr, hl]
set_option maxHeartbeats 2000000 in
set_option maxRecDepth 100000 in
theorem begin_bad (a : Option Addr) (len cap : Nat) (w : World) (hl : len ≤ maxLen) (hE : szP len ≠ 0) :
    Calls Try.prog 10 #[.slice a len cap] w fun e w' => e = .returned (.tuple #[sdV none 0 0 0 0 0 false, .slice none 0 0, .int .i64 (szP len)]) ∧ Below w.heap.size w w' := by
  have hS := fun W => pcheckSize_any a len cap W hl
  have hne : (szP len != 0) = true := by simpa using hE
  have HB := Hid.mk (awG w (sdC none 0 0 0 0 0 false))
  have HN := Hid.mk (heap_alloc_new w (sdC none 0 0 0 0 0 false))
  unfold sdC at HB HN
  unfold sdV
  clear hl hE
  generalize szP len = E at *
  go_enter Try.func10, Try.ntmps10
  go_wp2_with fail
  refine (hS _).mono ?_
  rintro e w1 ⟨rfl, hw1⟩
  rw [hw1]
  clear hw1 hS
  go_wp2_with fail
  refine bodyPost_ret (begin_res _ _ w.heap.size _ _ _ rfl rfl rfl HN.out rfl) rfl ?_
  exact ⟨rfl, HB.out⟩
/-- Left of a sender that has begun -/
def lfB (n : Nat) : Int := if n ≤ 7 then 0 else -1
set_option maxHeartbeats 8000000 in
set_option maxRecDepth 100000 in
theorem begin_ok (x : Addr) (len cap : Nat) (l : List UInt8) (w : World) (hD : IsBytes w (some x) len cap l) (h1 : 1 ≤ len) (h3 : len ≤ 300) :
    Calls Try.prog 10 #[.slice (some x) len cap] w fun e w' => ∃ g c gp cp, e = .returned (.tuple #[sdV (some ⟨g, 0, none⟩) len c (inF len) 1 (lfB len) (decide (len ≤ 7)), .slice (some ⟨gp, 0, none⟩) (fpL l).length cp, .int .i64 0]) ∧ w.heap.size ≤ g ∧ IsBytes w' (some ⟨g, 0, none⟩) len c l ∧ IsBytes w' (some ⟨gp, 0, none⟩) (fpL l).length cp (fpL l) ∧ Below w.heap.size w w' := by
  have hS := fun W => pcheckSize_any (some x) len cap W (Nat.le_trans hD.2.1 hD.2.2.1)
  simp only [szP_yes h1 h3] at hS
  have hIF := fun W => inFirst_any (some x) len cap W (Nat.le_trans hD.2.1 hD.2.2.1)
  have HCL := Hid.mk (fun W (hb : Below w.heap.size w W) => cloneBy_some x len cap l W (isBytes_below hD hb) (by omega))
  have HF := Hid.mk (fun W (hb : Below w.heap.size w W) => firstPart_any x len cap l W (isBytes_below hD hb) h1 h3)
  have hlen3 : (len : Int) ≤ 300 := by omega
  have HB0 := Hid.mk (awG w (sdC none 0 0 0 0 0 false))
  have HR0 := Hid.mk (Row5.new w 28 (.slice none 0 0) (.int .i64 0) (.int .i64 0) (.int .i64 0) (.bool false))
  unfold sdC at HB0
  generalize hFL : fpL l = FL at *
  clear hFL hD
  by_cases h7 : len ≤ 7
  · rw [show inF len = len by unfold inF; rw [if_pos h7], show lfB len = 0 by unfold lfB; rw [if_pos h7], show decide (len ≤ 7) = true by simpa using h7] at *
    unfold sdV
    go_enter Try.func10, Try.ntmps10
    go_wp2_with fail
    refine (hS _).mono ?_
    rintro e w1 ⟨rfl, hw1⟩
    rw [hw1]
    clear hw1 hS
    go_wp2_with fail
    refine (HCL.out _ HB0.out).mono ?_
    rintro e w2 ⟨g, c, rfl, hown, hg, hb2⟩
    have HO := Hid.mk (isBytes_ownG hown)
    have HG : Hid (w.heap.size < g) := Hid.mk (by have := hg; simp at this; omega)
    have HB2 := Hid.mk (bl2 HB0.out hb2)
    have HR2 := Hid.mk (HR0.out.kept hb2)
    clear hown hg hb2 HCL HR0 HB0
    go_wp2_with fail
    refine (hIF _).mono ?_
    rintro e w3 ⟨rfl, hw3⟩
    rw [hw3]
    clear hw3 hIF
    go_wp2_with fail
    have HR3 := Hid.mk (Row5.new w2 28 (.slice (some ⟨g, 0, none⟩) len c) (.int .i64 (len : Int)) (.int .i64 1) (.int .i64 0) (.bool true))
    have HZ3 := Hid.mk (HR2.out.kept (awG w2 (.cells #[.slice (some ⟨g, 0, none⟩) len c, .int .i64 (len : Int), .int .i64 1, .int .i64 0, .bool true] 28)))
    have HB3 := Hid.mk (bl2 HB2.out (awG w2 (.cells #[.slice (some ⟨g, 0, none⟩) len c, .int .i64 (len : Int), .int .i64 1, .int .i64 0, .bool true] 28)))
    have HY3 := Hid.mk (isBytes_below HO.out (awG w2 (.cells #[.slice (some ⟨g, 0, none⟩) len c, .int .i64 (len : Int), .int .i64 1, .int .i64 0, .bool true] 28)))
    have HS3 : Hid (w2.heap.size ≠ w.heap.size) := Hid.mk (by have := HR2.out.lt; omega)
    generalize w2.alloc (.cells #[.slice (some ⟨g, 0, none⟩) len c, .int .i64 (len : Int), .int .i64 1, .int .i64 0, .bool true] 28) = W3 at *
    generalize w2.heap.size = s3 at *
    clear HO HR2 HB2
    have HNE : Hid (s3 ≠ w.heap.size) := HS3
    have HK : Hid (∀ W, Below W3.heap.size W3 W → W.cell? ⟨s3, 0, none⟩ = some (.slice (some ⟨g, 0, none⟩) len c) ∧ W.cell? ⟨s3, 1, none⟩ = some (.int .i64 (len : Int)) ∧ W.cell? ⟨s3, 2, none⟩ = some (.int .i64 1) ∧ W.cell? ⟨s3, 3, none⟩ = some (.int .i64 0) ∧ W.cell? ⟨s3, 4, none⟩ = some (.bool true)) := Hid.mk (fun W hb => (HR3.out.kept hb).cells)
    have HF3 := Hid.mk (HF.out W3.drew (bl2 HB3.out (dwG W3)))
    go_region_held3 (fun W => W.cell? ⟨s3, 0, none⟩ = some (.slice (some ⟨g, 0, none⟩) len c) ∧ W.cell? ⟨s3, 1, none⟩ = some (.int .i64 (len : Int)) ∧ W.cell? ⟨s3, 2, none⟩ = some (.int .i64 1) ∧ W.cell? ⟨s3, 3, none⟩ = some (.int .i64 0) ∧ W.cell? ⟨s3, 4, none⟩ = some (.bool true)) (with_reducible first | exact HK.out _ (dwG _) | exact HK.out _ HB5.out | exact ((HR3.out.kept HB5.out).far5 HNE.out _ _ _ _ _).cells) (first
      | (go_at_call 28; with_reducible refine HF3.out.mono ?_; rintro e w5 ⟨gp, cp, rfl, hgp, hYp, hb5⟩
         have HB5 := Hid.mk (bl2 (dwG W3) hb5)
         have HYP := Hid.mk hYp
         have HGP := Hid.mk (Nat.le_trans (dwG W3).size hgp)
         have hZ5 := HZ3.out.kept HB5.out
         obtain ⟨z0, z1, z2, z3, z4⟩ := hZ5.cells
         have y0 := hZ5.frozen 0
         have y1 := hZ5.frozen 1
         have y2 := hZ5.frozen 2
         have y3 := hZ5.frozen 3
         have y4 := hZ5.frozen 4
         obtain ⟨⟨p1, q1⟩, ⟨p2, q2⟩, ⟨p3, q3⟩, ⟨p4, q4⟩, hSX⟩ := hZ5.store (.slice (some ⟨g, 0, none⟩) len c) (.int .i64 (len : Int)) (.int .i64 1) (.int .i64 0) (.bool true)
         have HSX := Hid.mk hSX
         clear hb5 hYp hgp hSX hZ5))
    go_wp2_with fail
    refine bodyPost_ret (begin_res _ _ w.heap.size _ _ _ rfl rfl rfl HSX.out rfl) rfl ?_
    have hwlt := HZ3.out.lt
    have hg' : w.heap.size < g := HG.out
    exact ⟨g, c, gp, cp, rfl, Nat.le_of_lt hg', isBytes_set5 (isBytes_below HY3.out HB5.out) (by simp; omega) _ _ _ _ _, isBytes_set5 HYP.out (by have := HGP.out; simp; omega) _ _ _ _ _, set5_below (bl2 HB3.out HB5.out) (Nat.le_refl _) _ _ _ _ _⟩
  · rw [show inF len = 6 by unfold inF; rw [if_neg h7], show lfB len = -1 by unfold lfB; rw [if_neg h7], show decide (len ≤ 7) = false by simpa using h7] at *
    have h6l : ((6 : Int) == (len : Int)) = false := by simp; omega
    have h6i : ((6 : Nat) : Int) = 6 := rfl
    rw [h6i] at *
    clear h6i
    unfold sdV
    go_enter Try.func10, Try.ntmps10
    go_wp2_with fail
    refine (hS _).mono ?_
    rintro e w1 ⟨rfl, hw1⟩
    rw [hw1]
    clear hw1 hS
    go_wp2_with fail
    refine (HCL.out _ HB0.out).mono ?_
    rintro e w2 ⟨g, c, rfl, hown, hg, hb2⟩
    have HO := Hid.mk (isBytes_ownG hown)
    have HG : Hid (w.heap.size < g) := Hid.mk (by have := hg; simp at this; omega)
    have HB2 := Hid.mk (bl2 HB0.out hb2)
    have HR2 := Hid.mk (HR0.out.kept hb2)
    clear hown hg hb2 HCL HR0 HB0
    go_wp2_with fail
    refine (hIF _).mono ?_
    rintro e w3 ⟨rfl, hw3⟩
    rw [hw3]
    clear hw3 hIF
    go_wp2_with fail
    have HR3 := Hid.mk (Row5.new w2 28 (.slice (some ⟨g, 0, none⟩) len c) (.int .i64 6) (.int .i64 1) (.int .i64 (-1)) (.bool false))
    have HZ3 := Hid.mk (HR2.out.kept (awG w2 (.cells #[.slice (some ⟨g, 0, none⟩) len c, .int .i64 6, .int .i64 1, .int .i64 (-1), .bool false] 28)))
    have HB3 := Hid.mk (bl2 HB2.out (awG w2 (.cells #[.slice (some ⟨g, 0, none⟩) len c, .int .i64 6, .int .i64 1, .int .i64 (-1), .bool false] 28)))
    have HY3 := Hid.mk (isBytes_below HO.out (awG w2 (.cells #[.slice (some ⟨g, 0, none⟩) len c, .int .i64 6, .int .i64 1, .int .i64 (-1), .bool false] 28)))
    have HS3 : Hid (w2.heap.size ≠ w.heap.size) := Hid.mk (by have := HR2.out.lt; omega)
    generalize w2.alloc (.cells #[.slice (some ⟨g, 0, none⟩) len c, .int .i64 6, .int .i64 1, .int .i64 (-1), .bool false] 28) = W3 at *
    generalize w2.heap.size = s3 at *
    clear HO HR2 HB2
    have HNE : Hid (s3 ≠ w.heap.size) := HS3
    have HK : Hid (∀ W, Below W3.heap.size W3 W → W.cell? ⟨s3, 0, none⟩ = some (.slice (some ⟨g, 0, none⟩) len c) ∧ W.cell? ⟨s3, 1, none⟩ = some (.int .i64 6) ∧ W.cell? ⟨s3, 2, none⟩ = some (.int .i64 1) ∧ W.cell? ⟨s3, 3, none⟩ = some (.int .i64 (-1)) ∧ W.cell? ⟨s3, 4, none⟩ = some (.bool false)) := Hid.mk (fun W hb => (HR3.out.kept hb).cells)
    have HF3 := Hid.mk (HF.out W3.drew (bl2 HB3.out (dwG W3)))
    go_region_held3 (fun W => W.cell? ⟨s3, 0, none⟩ = some (.slice (some ⟨g, 0, none⟩) len c) ∧ W.cell? ⟨s3, 1, none⟩ = some (.int .i64 6) ∧ W.cell? ⟨s3, 2, none⟩ = some (.int .i64 1) ∧ W.cell? ⟨s3, 3, none⟩ = some (.int .i64 (-1)) ∧ W.cell? ⟨s3, 4, none⟩ = some (.bool false)) (with_reducible first | exact HK.out _ (dwG _) | exact HK.out _ HB5.out | exact ((HR3.out.kept HB5.out).far5 HNE.out _ _ _ _ _).cells) (first
      | (go_at_call 28; with_reducible refine HF3.out.mono ?_; rintro e w5 ⟨gp, cp, rfl, hgp, hYp, hb5⟩
         have HB5 := Hid.mk (bl2 (dwG W3) hb5)
         have HYP := Hid.mk hYp
         have HGP := Hid.mk (Nat.le_trans (dwG W3).size hgp)
         have hZ5 := HZ3.out.kept HB5.out
         obtain ⟨z0, z1, z2, z3, z4⟩ := hZ5.cells
         have y0 := hZ5.frozen 0
         have y1 := hZ5.frozen 1
         have y2 := hZ5.frozen 2
         have y3 := hZ5.frozen 3
         have y4 := hZ5.frozen 4
         obtain ⟨⟨p1, q1⟩, ⟨p2, q2⟩, ⟨p3, q3⟩, ⟨p4, q4⟩, hSX⟩ := hZ5.store (.slice (some ⟨g, 0, none⟩) len c) (.int .i64 6) (.int .i64 1) (.int .i64 (-1)) (.bool false)
         have HSX := Hid.mk hSX
         clear hb5 hYp hgp hSX hZ5))
    go_wp2_with fail
    refine bodyPost_ret (begin_res _ _ w.heap.size _ _ _ rfl rfl rfl HSX.out rfl) rfl ?_
    have hwlt := HZ3.out.lt
    have hg' : w.heap.size < g := HG.out
    exact ⟨g, c, gp, cp, rfl, Nat.le_of_lt hg', isBytes_set5 (isBytes_below HY3.out HB5.out) (by simp; omega) _ _ _ _ _, isBytes_set5 HYP.out (by have := HGP.out; simp; omega) _ _ _ _ _, set5_below (bl2 HB3.out HB5.out) (Nat.le_refl _) _ _ _ _ _⟩
end Bw
end Go.Proofs.Ytgjnfmbmndnihaa
