/- The law PartTold: it sends a part of several. -/
import Derived.Test.YtgjnfmbmndnihaaPtCs
import Derived.Test.YtgjnfmbmndnihaaPtToldLawP
import Derived.Test.YtgjnfmbmndnihaaPtLed
import Derived.Test.YtgjnfmbmndnihaaPtTold
import Derived.Test.YtgjnfmbmndnihaaPtNext
import Derived.Test.YtgjnfmbmndnihaaPtAnewLaw
import Derived.Test.YtgjnfmbmndnihaaPtSplitLaw
import Derived.Deep.RegionHeld3
import Derived.RegionTactic
import Derived.BigRegion
namespace Go.Proofs.Ytgjnfmbmndnihaa
open Go.ChangeShapes Go.WideShapes Go.ChangeAt Go.RowKit
namespace Bw
open Bm
set_option linter.unusedVariables false
set_option maxHeartbeats 8000000 in
set_option maxRecDepth 100000 in
theorem ptold_more_len (x : Addr) (n cap kk nx j : Nat) (left : Int) (b : Option Addr) (m mc : Nat) (l p : List UInt8) (w : World) (hD : IsBytes w (some x) n cap l) (hP : IsBytes w b m mc p) (hE : sdE n (kk : Int) (nx : Int) left false = 0) (hlf : left ≠ -1) (h3 : m ≠ 3) (h7 : 7 < n) (hn3 : n ≤ 300) (hkk : kk = 6 + 7 * j) (hkn : kk < n) (hnx : nx < 16) (hl2 : 2 ≤ left) (hl1 : left ≤ 255) (hla : kk + 7 < n)  :
    Calls Try.prog 4 #[sdV (some x) n cap (kk : Int) (nx : Int) left false, .slice b m mc] w fun e w' => e = .returned (.bool true) ∧ Below w.heap.size w w' := by
  have hB0 := awG w (sdC (some x) n cap (kk : Int) (nx : Int) left false)
  have hlm : n ≤ maxLen := Nat.le_trans hD.2.1 hD.2.2.1
  have hmm : m ≤ maxLen := Nat.le_trans hP.2.1 hP.2.2.1
  have HTD := Hid.mk (told_len (some x) n cap (kk : Int) (nx : Int) left false b m mc (w.alloc (sdC (some x) n cap (kk : Int) (nx : Int) left false)) hlm hmm hE h3)
  have HNX := Hid.mk (fun (W : World) (hW : Below w.heap.size w W) => next_more (some x) n cap kk nx left W hlm hE hlf (by omega) (by omega) hnx x l rfl (isBytes_below hD hW) hkn hn3 hla)
  have HCL := Hid.mk (fun W => lcheckSender_any (some x) n cap (kk : Int) (nx : Int) left false W hlm)
  have HCS := Hid.mk (fun W => checkSender_any (some x) n cap (kk : Int) (nx : Int) left false W hlm)
  have hPT := fun W => parted_any W
  have HR := Hid.mk (Row5.new w 28 (.slice (some x) n cap) (.int .i64 (kk : Int)) (.int .i64 (nx : Int)) (.int .i64 left) (.bool false))
  have HB := Hid.mk hB0
  have HDD := Hid.mk hD
  have hmli : (m : Int) ≤ 9223372036854775807 := by unfold maxLen at hmm; omega
  rw [hE] at HCL HCS
  have HSZ : Hid (∀ W : World, Calls Try.prog 13 #[sdV none 0 0 0 0 0 false, sdV none 0 0 0 0 0 false] W fun e w' => e = .returned (.bool true) ∧ Below W.heap.size W w') := Hid.mk (fun W => sameSender_true none none 0 0 0 0 [] 0 0 0 false W ⟨rfl, Nat.le_refl _, Nat.zero_le _, fun _ => rfl, fun y hy => by cases hy⟩ ⟨rfl, Nat.le_refl _, Nat.zero_le _, fun _ => rfl, fun y hy => by cases hy⟩)
  unfold sdV at HSZ
  have hm3 : ((m : Int) != 3) = true := by simp; omega
  clear h3
  have HPO := Hid.mk (fun (W : World) (hW : Below w.heap.size w W) => partsOf_at x n cap l W (isBytes_below hD hW) h7 hn3)
  obtain ⟨AT, hAT⟩ : ∃ AT, AT = kk + 7 := ⟨_, rfl⟩
  obtain ⟨N2, hN2⟩ : ∃ N2, N2 = (nx + 1) % 16 := ⟨_, rfl⟩
  rw [← hN2] at HNX
  rw [← hAT] at HNX
  rw [show lbI left = left - 1 by unfold lbI; rw [if_neg (by omega), if_neg (by omega)]] at HNX
  have hr0 : ((nx : Int) + 1).tmod 16 = (N2 : Int) := by rw [Int.tmod_eq_emod_of_nonneg (by omega)]; omega
  have hrw : IntKind.i64.wrap (((nx : Int) + 1).tmod 16) = (N2 : Int) := by rw [hr0, IntKind.wrap_i64]; omega
  have hN2b : (N2 : Int) ≤ 15 := by omega
  have hnxb : (nx : Int) ≤ 15 := by omega
  have hkb : (kk : Int) ≤ 300 := by omega
  have hatI : (kk : Int) + 7 = (AT : Int) := by omega
  have hATb : (AT : Int) ≤ 307 := by omega
  have hni : (n : Int) ≤ 300 := by omega
  obtain ⟨d6, hd6⟩ : ∃ d6, d6 = 7 * j := ⟨_, rfl⟩
  have hk6 : (kk : Int) - 6 = (d6 : Int) := by omega
  have hd6b : (d6 : Int) ≤ 300 := by omega
  have hdv0 : (d6 : Int).tdiv 7 = (j : Int) := by rw [Int.tdiv_eq_ediv_of_nonneg (by omega)]; omega
  have hdv : IntKind.i64.wrap ((d6 : Int).tdiv 7) = (j : Int) := by rw [hdv0, IntKind.wrap_i64]; omega
  have hjb : (j : Int) ≤ 43 := by omega
  obtain ⟨J1, hJ1⟩ : ∃ J1, J1 = j + 1 := ⟨_, rfl⟩
  have hj1 : (j : Int) + 1 = (J1 : Int) := by omega
  have hJb : (J1 : Int) ≤ 44 := by omega
  have HJN : Hid (J1 < 1 + nxN n) := Hid.mk (by unfold nxN; rw [if_neg (by omega)]; omega)
  have HNL : Hid ((partsL l).getD J1 [] = npL l kk) := Hid.mk (by rw [hJ1, parts_next (by rw [hD.1]; unfold nxN; rw [if_neg (by omega)]; omega), ← hkk])
  have HDL : Hid (x.block < w.heap.size) := Hid.mk (isBytes_lt hD (by omega))
  have HMN : Hid ((if n < AT then (n : Int) else (AT : Int)) = (AT : Int)) := Hid.mk (by split <;> omega)
  have hae : ((AT : Int) == (n : Int)) = false := by simp; omega
  have hlm1 : (left == -1) = false := by simp; omega
  have hlm2 : (left != -1) = true := by simp; omega
  have hle1 : (left == 1) = false := by simp; omega
  have hgt1 : (1 : Int) < left := by omega
  have HN0 : Hid (0 < n) := Hid.mk (by omega)
  clear hE h7 hn3 hkk hkn hnx hla hAT hN2 hd6 hJ1 hl2
  unfold sdC at HB HTD
  unfold sdV at HTD HNX HCL HCS ⊢
  clear hB0 hlm hmm hD hP
  go_enter Try.func4, Try.ntmps4
  go_wp2_with fail
  refine HTD.out.mono ?_
  rintro e w1 ⟨rfl, hb1⟩
  have hba := awG w1 (.cells #[.slice none 0 0, .int .i64 0, .int .i64 0, .int .i64 0, .bool false] 28)
  have hbb := bl2 hb1 hba
  have HB1 := Hid.mk (bl2 HB.out hbb)
  have HR1 := Hid.mk (HR.out.kept hbb)
  have HX1 := Hid.mk (Row5.new w1 28 (.slice none 0 0) (.int .i64 0) (.int .i64 0) (.int .i64 0) (.bool false))
  obtain ⟨a0, a1, a2, a3, a4⟩ := HR1.out.cells
  clear hb1 hba hbb HB HR HTD
  go_wp2_with fail
  generalize w1.alloc (.cells #[.slice none 0 0, .int .i64 0, .int .i64 0, .int .i64 0, .bool false] 28) = W1 at *
  generalize w1.heap.size = s1 at *
  refine (HNX.out _ HB1.out).mono ?_
  rintro e w2 ⟨g2, c2, gp, cp, rfl, hg2, hgp, hf2, hfp, hb2⟩
  have hba := awG w2 (.cells #[.slice (some ⟨g2, 0, none⟩) n c2, .int .i64 (AT : Int), .int .i64 (N2 : Int), .int .i64 (left - 1), .bool false] 28)
  have hbb := bl2 hb2 hba
  have HB2 := Hid.mk (bl2 HB1.out hbb)
  have HR2 := Hid.mk (HR1.out.kept hbb)
  have HX2 := Hid.mk (HX1.out.kept hbb)
  have HY2 := Hid.mk (Row5.new w2 28 (.slice (some ⟨g2, 0, none⟩) n c2) (.int .i64 (AT : Int)) (.int .i64 (N2 : Int)) (.int .i64 (left - 1)) (.bool false))
  have HF2 := Hid.mk (isBytes_below hf2 hba)
  have HFP := Hid.mk (isBytes_below hfp hba)
  clear hf2 hfp hg2 hgp hb2 hba hbb HB1 HR1 HX1 HNX a0 a1 a2 a3 a4
  obtain ⟨a0, a1, a2, a3, a4⟩ := HR2.out.cells
  go_wp2_with fail
  generalize w2.alloc (.cells #[.slice (some ⟨g2, 0, none⟩) n c2, .int .i64 (AT : Int), .int .i64 (N2 : Int), .int .i64 (left - 1), .bool false] 28) = W2 at *
  generalize w2.heap.size = s2 at *
  refine (HCL.out _).mono ?_
  rintro e w3 ⟨rfl, hb3⟩
  clear HCL a0 a1 a2 a3 a4
  go_wp2_with fail
  refine (hPT _).mono ?_
  rintro e w4 ⟨rfl, hb4⟩
  have hb4' := bl2 hb3 hb4
  obtain ⟨a0, a1, a2, a3, a4⟩ := (HR2.out.kept hb4').cells
  clear hb3 hb4
  go_wp2_with fail
  refine (HCS.out _).mono ?_
  rintro e w5 ⟨rfl, hb5⟩
  have hb5' := bl2 hb4' hb5
  have HB5 := Hid.mk (bl2 HB2.out hb5')
  have HR5 := Hid.mk (HR2.out.kept hb5')
  have HX5 := Hid.mk (HX2.out.kept hb5')
  have HY5 := Hid.mk (HY2.out.kept hb5')
  have HF2 := Hid.mk (isBytes_below HF2.out hb5')
  have HFP := Hid.mk (isBytes_below HFP.out hb5')
  clear hb4' hb5 hb5' HB2 HR2 HX2 HY2 HCS a0 a1 a2 a3 a4
  have HRS : Hid (w.heap.size < w5.heap.size) := Hid.mk HR5.out.lt
  have HYS : Hid (s2 < w5.heap.size) := Hid.mk HY5.out.lt
  have HGS : Hid (g2 < w5.heap.size) := Hid.mk (isBytes_lt HF2.out HN0.out)
  have HPS : Hid (gp < w5.heap.size) := Hid.mk (isBytes_lt HFP.out (by unfold npL; simp))
  have hq5 := awG w5 (.cells #[.slice (some x) n cap, .int .i64 (kk : Int), .int .i64 (nx : Int), .int .i64 left, .bool false] 28)
  have HW6 := Hid.mk (Row5.new w5 28 (.slice (some x) n cap) (.int .i64 (kk : Int)) (.int .i64 (nx : Int)) (.int .i64 left) (.bool false))
  have HB6 := Hid.mk (bl2 HB5.out hq5)
  have HR6 := Hid.mk (HR5.out.kept hq5)
  have HX6 := Hid.mk (HX5.out.kept hq5)
  have HY6 := Hid.mk (HY5.out.kept hq5)
  obtain ⟨i0, i1, i2, i3, i4⟩ := HR5.out.cells
  obtain ⟨k0, k1, k2, k3, k4⟩ := HR6.out.cells
  have HF2 := Hid.mk (isBytes_below HF2.out hq5)
  have HFP := Hid.mk (isBytes_below HFP.out hq5)
  clear hq5 HB5 HR5 HX5 HY5
  obtain ⟨x0, x1, x2, x3, x4⟩ := HX6.out.cells
  go_wp2_with fail
  generalize (w5.alloc (.cells #[.slice (some x) n cap, .int .i64 (kk : Int), .int .i64 (nx : Int), .int .i64 left, .bool false] 28)) = W6 at *
  refine (HSZ.out _).mono ?_
  rintro e w7 ⟨rfl, hb7⟩
  have HB7 := Hid.mk (bl2 HB6.out hb7)
  have HR7 := Hid.mk (HR6.out.kept hb7)
  have HY7 := Hid.mk (HY6.out.kept hb7)
  have HW7 := Hid.mk (HW6.out.kept hb7)
  have HF2 := Hid.mk (isBytes_below HF2.out hb7)
  have HFP := Hid.mk (isBytes_below HFP.out hb7)
  clear hb7 HB6 HR6 HX6 HY6 HW6 x0 x1 x2 x3 x4 i0 i1 i2 i3 i4 k0 k1 k2 k3 k4
  obtain ⟨k0, k1, k2, k3, k4⟩ := HR7.out.cells
  generalize w5.heap.size = s5 at *
  go_wp2_with fail
  have HWL := Hid.mk HW7.out.lt
  refine (HPO.out _ HB7.out).mono ?_
  rintro e w8 ⟨gx, cq, NP, rfl, hNP, hpf, hb8⟩
  obtain ⟨hgx, hpk⟩ := hpf
  obtain ⟨yk, dk, zk, hck, hbk, hyk⟩ := hpk J1 (by have := HJN.out; omega)
  rw [HNL.out] at hbk
  have hJNP : J1 < NP := by have := HJN.out; omega
  have hJNPi : (J1 : Int) < (NP : Int) := by omega
  have HB8 := Hid.mk (bl2 HB7.out hb8)
  have HR8 := Hid.mk (HR7.out.kept hb8)
  have HY8 := Hid.mk (HY7.out.kept hb8)
  have HW8 := Hid.mk (HW7.out.kept hb8)
  have HF2 := Hid.mk (isBytes_below HF2.out hb8)
  have HFP := Hid.mk (isBytes_below HFP.out hb8)
  have HBK := Hid.mk hbk
  have HCK := Hid.mk hck
  have HKS : Hid (s5 < yk.block) := Hid.mk (by have := HWL.out; omega)
  have HKX : Hid (s5 < gx.block) := Hid.mk (by have := HWL.out; omega)
  clear hgx hpk hbk hck hyk hb8 HB7 HR7 HY7 HW7 k0 k1 k2 k3 k4 hNP HPO
  obtain ⟨k0, k1, k2, k3, k4⟩ := HR8.out.cells
  have hne4 : w.heap.size ≠ s5 := by have := HRS.out; omega
  have hle4 : w.heap.size ≤ s5 := by have := HRS.out; omega
  have hne2 : s2 ≠ s5 := by have := HYS.out; omega
  have hneg : g2 ≠ s5 := by have := HGS.out; omega
  have hnep : gp ≠ s5 := by have := HPS.out; omega
  have hnek : yk.block ≠ s5 := by have := HKS.out; omega
  have hnex : gx.block ≠ s5 := by have := HKX.out; omega
  have hned : x.block ≠ s5 := by have := HDL.out; omega
  have HDW := Hid.mk (isBytes_below HDD.out HB8.out)
  obtain ⟨⟨z0, z1, z2, z3, z4⟩, ⟨y0, y1, y2, y3, y4⟩, ⟨p1, r1⟩, ⟨p2, r2⟩, ⟨p3, r3⟩, ⟨p4, r4⟩, hSX⟩ := HW8.out.ready (.slice (some x) n cap) (.int .i64 (kk : Int)) (.int .i64 (nx : Int)) (.int .i64 left) (.bool false)
  have HW9 := Hid.mk hSX
  have HB9 := Hid.mk (set5_below HB8.out hle4 (.slice (some x) n cap) (.int .i64 (kk : Int)) (.int .i64 (nx : Int)) (.int .i64 left) (.bool false))
  have HR9 := Hid.mk (HR8.out.far5 hne4 (.slice (some x) n cap) (.int .i64 (kk : Int)) (.int .i64 (nx : Int)) (.int .i64 left) (.bool false))
  have HY9 := Hid.mk (HY8.out.far5 hne2 (.slice (some x) n cap) (.int .i64 (kk : Int)) (.int .i64 (nx : Int)) (.int .i64 left) (.bool false))
  have HF2 := Hid.mk (isBytes_set5 HF2.out hneg (.slice (some x) n cap) (.int .i64 (kk : Int)) (.int .i64 (nx : Int)) (.int .i64 left) (.bool false))
  have HFP := Hid.mk (isBytes_set5 HFP.out hnep (.slice (some x) n cap) (.int .i64 (kk : Int)) (.int .i64 (nx : Int)) (.int .i64 left) (.bool false))
  have HBK := Hid.mk (isBytes_set5 HBK.out hnek (.slice (some x) n cap) (.int .i64 (kk : Int)) (.int .i64 (nx : Int)) (.int .i64 left) (.bool false))
  have HDW := Hid.mk (isBytes_set5 HDW.out hned (.slice (some x) n cap) (.int .i64 (kk : Int)) (.int .i64 (nx : Int)) (.int .i64 left) (.bool false))
  have HCK := Hid.mk (cell_set5 hnex HCK.out (.slice (some x) n cap) (.int .i64 (kk : Int)) (.int .i64 (nx : Int)) (.int .i64 left) (.bool false))
  unfold set5 at HW9 HB9 HF2 HFP HBK HDW HCK
  clear hSX HB8 HR8 HY8 HW8
  iterate 42 (first | go_values | go_skip | go_guarded | go_step | go_upon | go_back | go_simp | (go_values <;> (try go_simp)) | (go_ite <;> go_prune <;> (try go_simp)) | (split <;> (first | (rename_i hx; exact (hx _ rfl).elim) | go_prune)))
  generalize (((((w8.setCell ⟨s5, 0, none⟩ (.slice (some x) n cap)).setCell ⟨s5, 1, none⟩ (.int .i64 (kk : Int))).setCell ⟨s5, 2, none⟩ (.int .i64 (nx : Int))).setCell ⟨s5, 3, none⟩ (.int .i64 left)).setCell ⟨s5, 4, none⟩ (.bool false)) = W9 at *
  clear z0 z1 z2 z3 z4 y0 y1 y2 y3 y4 p1 r1 p2 r2 p3 r3 p4 r4 k0 k1 k2 k3 k4
  obtain ⟨k0, k1, k2, k3, k4⟩ := HR9.out.cells
  obtain ⟨z0, z1, z2, z3, z4⟩ := HW9.out.cells
  have ff := HW9.out.frozen 1
  have HB9 := Hid.mk (HB9.out.setCell (p := ⟨s5, 1, none⟩) hle4 (.int .i64 (AT : Int)))
  have HR9 := Hid.mk (HR9.out.far hne4 1 (.int .i64 (AT : Int)))
  have HY9 := Hid.mk (HY9.out.far hne2 1 (.int .i64 (AT : Int)))
  have HW9 := Hid.mk (HW9.out.set (.int .i64 (AT : Int))).1.2.1
  have HF2 := Hid.mk (isBytes_set HF2.out hneg 1 (.int .i64 (AT : Int)))
  have HFP := Hid.mk (isBytes_set HFP.out hnep 1 (.int .i64 (AT : Int)))
  have HBK := Hid.mk (isBytes_set HBK.out hnek 1 (.int .i64 (AT : Int)))
  have HDW := Hid.mk (isBytes_set HDW.out hned 1 (.int .i64 (AT : Int)))
  have HCK := Hid.mk (cell_setK hnex HCK.out 1 (.int .i64 (AT : Int)))
  iterate 32 (first | go_values | go_skip | go_guarded | go_step | go_upon | go_back | go_simp | (go_values <;> (try go_simp)) | (go_ite <;> go_prune <;> (try go_simp)) | (split <;> (first | (rename_i hx; exact (hx _ rfl).elim) | go_prune)))
  rw [HMN.out]
  generalize W9.setCell ⟨s5, 1, none⟩ (.int .i64 (AT : Int)) = W10 at *
  clear ff z0 z1 z2 z3 z4 k0 k1 k2 k3 k4
  obtain ⟨k0, k1, k2, k3, k4⟩ := HR9.out.cells
  obtain ⟨z0, z1, z2, z3, z4⟩ := HW9.out.cells
  have ff := HW9.out.frozen 2
  have HB9 := Hid.mk (HB9.out.setCell (p := ⟨s5, 2, none⟩) hle4 (.int .i64 (N2 : Int)))
  have HR9 := Hid.mk (HR9.out.far hne4 2 (.int .i64 (N2 : Int)))
  have HY9 := Hid.mk (HY9.out.far hne2 2 (.int .i64 (N2 : Int)))
  have HW9 := Hid.mk (HW9.out.set (.int .i64 (N2 : Int))).1.2.2
  have HF2 := Hid.mk (isBytes_set HF2.out hneg 2 (.int .i64 (N2 : Int)))
  have HFP := Hid.mk (isBytes_set HFP.out hnep 2 (.int .i64 (N2 : Int)))
  have HBK := Hid.mk (isBytes_set HBK.out hnek 2 (.int .i64 (N2 : Int)))
  have HDW := Hid.mk (isBytes_set HDW.out hned 2 (.int .i64 (N2 : Int)))
  have HCK := Hid.mk (cell_setK hnex HCK.out 2 (.int .i64 (N2 : Int)))
  iterate 23 (first | go_values | go_skip | go_guarded | go_step | go_upon | go_back | go_simp | (go_values <;> (try go_simp)) | (go_ite <;> go_prune <;> (try go_simp)) | (split <;> (first | (rename_i hx; exact (hx _ rfl).elim) | go_prune)))
  generalize W10.setCell ⟨s5, 2, none⟩ (.int .i64 (N2 : Int)) = W11 at *
  clear ff z0 z1 z2 z3 z4 k0 k1 k2 k3 k4
  obtain ⟨k0, k1, k2, k3, k4⟩ := HR9.out.cells
  obtain ⟨z0, z1, z2, z3, z4⟩ := HW9.out.cells
  have ff := HW9.out.frozen 4
  have HB9 := Hid.mk (HB9.out.setCell (p := ⟨s5, 4, none⟩) hle4 (.bool false))
  have HR9 := Hid.mk (HR9.out.far hne4 4 (.bool false))
  have HY9 := Hid.mk (HY9.out.far hne2 4 (.bool false))
  have HW9 := Hid.mk (HW9.out.set (.bool false)).2.2
  have HF2 := Hid.mk (isBytes_set HF2.out hneg 4 (.bool false))
  have HFP := Hid.mk (isBytes_set HFP.out hnep 4 (.bool false))
  have HBK := Hid.mk (isBytes_set HBK.out hnek 4 (.bool false))
  have HDW := Hid.mk (isBytes_set HDW.out hned 4 (.bool false))
  have HCK := Hid.mk (cell_setK hnex HCK.out 4 (.bool false))
  iterate 29 (first | go_values | go_skip | go_guarded | go_step | go_upon | go_back | go_simp | (go_values <;> (try go_simp)) | (go_ite <;> go_prune <;> (try go_simp)) | (split <;> (first | (rename_i hx; exact (hx _ rfl).elim) | go_prune)))
  generalize W11.setCell ⟨s5, 4, none⟩ (.bool false) = W12 at *
  clear ff z0 z1 z2 z3 z4 k0 k1 k2 k3 k4
  obtain ⟨k0, k1, k2, k3, k4⟩ := HR9.out.cells
  obtain ⟨z0, z1, z2, z3, z4⟩ := HW9.out.cells
  have ff := HW9.out.frozen 3
  have HB9 := Hid.mk (HB9.out.setCell (p := ⟨s5, 3, none⟩) hle4 (.int .i64 (left - 1)))
  have HR9 := Hid.mk (HR9.out.far hne4 3 (.int .i64 (left - 1)))
  have HY9 := Hid.mk (HY9.out.far hne2 3 (.int .i64 (left - 1)))
  have HW9 := Hid.mk (HW9.out.set (.int .i64 (left - 1))).2.1
  have HF2 := Hid.mk (isBytes_set HF2.out hneg 3 (.int .i64 (left - 1)))
  have HFP := Hid.mk (isBytes_set HFP.out hnep 3 (.int .i64 (left - 1)))
  have HBK := Hid.mk (isBytes_set HBK.out hnek 3 (.int .i64 (left - 1)))
  have HDW := Hid.mk (isBytes_set HDW.out hned 3 (.int .i64 (left - 1)))
  have HCK := Hid.mk (cell_setK hnex HCK.out 3 (.int .i64 (left - 1)))
  obtain ⟨at0, at1, at2, at3, at4⟩ := HR9.out.cells
  obtain ⟨bt0, bt1, bt2, bt3, bt4⟩ := HW9.out.cells
  have hck := HCK.out
  have HEQ := Hid.mk (equal_is HFP.out HBK.out)
  go_wp2_with fail
  refine HEQ.out.mono ?_
  rintro e w9 ⟨rfl, hb9⟩
  have HB9 := Hid.mk (bl2 HB9.out hb9)
  have HSS := Hid.mk (sameSender_true (some ⟨g2, 0, none⟩) (some x) n n c2 cap l (AT : Int) (N2 : Int) (left - 1) false w9 (isBytes_below HF2.out hb9) (isBytes_below HDW.out hb9))
  unfold sdV at HSS
  obtain ⟨x0, x1, x2, x3, x4⟩ := (HY9.out.kept hb9).cells
  obtain ⟨u0, u1, u2, u3, u4⟩ := (HW9.out.kept hb9).cells
  clear hb9
  go_wp2_with fail
  refine HSS.out.mono ?_
  rintro e w10 ⟨rfl, hb10⟩
  have HB10 := Hid.mk (bl2 HB9.out hb10)
  clear hb10
  go_wp2_with fail
  go_ret
  exact ⟨by first | rfl | simp, HB10.out⟩
set_option maxHeartbeats 8000000 in
set_option maxRecDepth 100000 in
theorem ptold_more_low (x : Addr) (n cap kk nx j : Nat) (left : Int) (y : Addr) (mc : Nat) (l p : List UInt8) (w : World) (hD : IsBytes w (some x) n cap l) (hP : IsBytes w (some y) 3 mc p) (hE : sdE n (kk : Int) (nx : Int) left false = 0) (hlf : left ≠ -1) (c0 : Nat) (hc0 : c0 < 256) (hy : w.cell? y = some (.int .u8 (c0 : Int))) (hc : c0 < 48) (h7 : 7 < n) (hn3 : n ≤ 300) (hkk : kk = 6 + 7 * j) (hkn : kk < n) (hnx : nx < 16) (hl2 : 2 ≤ left) (hl1 : left ≤ 255) (hla : kk + 7 < n)  :
    Calls Try.prog 4 #[sdV (some x) n cap (kk : Int) (nx : Int) left false, .slice (some y) 3 mc] w fun e w' => e = .returned (.bool true) ∧ Below w.heap.size w w' := by
  have hB0 := awG w (sdC (some x) n cap (kk : Int) (nx : Int) left false)
  have hlm : n ≤ maxLen := Nat.le_trans hD.2.1 hD.2.2.1
  have hmm : 3 ≤ maxLen := Nat.le_trans hP.2.1 hP.2.2.1
  have HTD := Hid.mk (told_byte (some x) n cap (kk : Int) (nx : Int) left false (some y) 3 mc (w.alloc (sdC (some x) n cap (kk : Int) (nx : Int) left false)) hlm hmm hE y c0 hc0 rfl rfl (cell_kept hB0 hy) (by omega))
  have HNX := Hid.mk (fun (W : World) (hW : Below w.heap.size w W) => next_more (some x) n cap kk nx left W hlm hE hlf (by omega) (by omega) hnx x l rfl (isBytes_below hD hW) hkn hn3 hla)
  have HCL := Hid.mk (fun W => lcheckSender_any (some x) n cap (kk : Int) (nx : Int) left false W hlm)
  have HCS := Hid.mk (fun W => checkSender_any (some x) n cap (kk : Int) (nx : Int) left false W hlm)
  have hPT := fun W => parted_any W
  have HR := Hid.mk (Row5.new w 28 (.slice (some x) n cap) (.int .i64 (kk : Int)) (.int .i64 (nx : Int)) (.int .i64 left) (.bool false))
  have HB := Hid.mk hB0
  have HDD := Hid.mk hD
  have hmli : (3 : Int) ≤ 9223372036854775807 := by unfold maxLen at hmm; omega
  rw [hE] at HCL HCS
  have HSZ : Hid (∀ W : World, Calls Try.prog 13 #[sdV none 0 0 0 0 0 false, sdV none 0 0 0 0 0 false] W fun e w' => e = .returned (.bool true) ∧ Below W.heap.size W w') := Hid.mk (fun W => sameSender_true none none 0 0 0 0 [] 0 0 0 false W ⟨rfl, Nat.le_refl _, Nat.zero_le _, fun _ => rfl, fun y hy => by cases hy⟩ ⟨rfl, Nat.le_refl _, Nat.zero_le _, fun _ => rfl, fun y hy => by cases hy⟩)
  unfold sdV at HSZ
  have q1 : (c0 : Int) < 48 := by omega
  have HY0 := Hid.mk hy
  clear hc hc0 hy
  have HPO := Hid.mk (fun (W : World) (hW : Below w.heap.size w W) => partsOf_at x n cap l W (isBytes_below hD hW) h7 hn3)
  obtain ⟨AT, hAT⟩ : ∃ AT, AT = kk + 7 := ⟨_, rfl⟩
  obtain ⟨N2, hN2⟩ : ∃ N2, N2 = (nx + 1) % 16 := ⟨_, rfl⟩
  rw [← hN2] at HNX
  rw [← hAT] at HNX
  rw [show lbI left = left - 1 by unfold lbI; rw [if_neg (by omega), if_neg (by omega)]] at HNX
  have hr0 : ((nx : Int) + 1).tmod 16 = (N2 : Int) := by rw [Int.tmod_eq_emod_of_nonneg (by omega)]; omega
  have hrw : IntKind.i64.wrap (((nx : Int) + 1).tmod 16) = (N2 : Int) := by rw [hr0, IntKind.wrap_i64]; omega
  have hN2b : (N2 : Int) ≤ 15 := by omega
  have hnxb : (nx : Int) ≤ 15 := by omega
  have hkb : (kk : Int) ≤ 300 := by omega
  have hatI : (kk : Int) + 7 = (AT : Int) := by omega
  have hATb : (AT : Int) ≤ 307 := by omega
  have hni : (n : Int) ≤ 300 := by omega
  obtain ⟨d6, hd6⟩ : ∃ d6, d6 = 7 * j := ⟨_, rfl⟩
  have hk6 : (kk : Int) - 6 = (d6 : Int) := by omega
  have hd6b : (d6 : Int) ≤ 300 := by omega
  have hdv0 : (d6 : Int).tdiv 7 = (j : Int) := by rw [Int.tdiv_eq_ediv_of_nonneg (by omega)]; omega
  have hdv : IntKind.i64.wrap ((d6 : Int).tdiv 7) = (j : Int) := by rw [hdv0, IntKind.wrap_i64]; omega
  have hjb : (j : Int) ≤ 43 := by omega
  obtain ⟨J1, hJ1⟩ : ∃ J1, J1 = j + 1 := ⟨_, rfl⟩
  have hj1 : (j : Int) + 1 = (J1 : Int) := by omega
  have hJb : (J1 : Int) ≤ 44 := by omega
  have HJN : Hid (J1 < 1 + nxN n) := Hid.mk (by unfold nxN; rw [if_neg (by omega)]; omega)
  have HNL : Hid ((partsL l).getD J1 [] = npL l kk) := Hid.mk (by rw [hJ1, parts_next (by rw [hD.1]; unfold nxN; rw [if_neg (by omega)]; omega), ← hkk])
  have HDL : Hid (x.block < w.heap.size) := Hid.mk (isBytes_lt hD (by omega))
  have HMN : Hid ((if n < AT then (n : Int) else (AT : Int)) = (AT : Int)) := Hid.mk (by split <;> omega)
  have hae : ((AT : Int) == (n : Int)) = false := by simp; omega
  have hlm1 : (left == -1) = false := by simp; omega
  have hlm2 : (left != -1) = true := by simp; omega
  have hle1 : (left == 1) = false := by simp; omega
  have hgt1 : (1 : Int) < left := by omega
  have HN0 : Hid (0 < n) := Hid.mk (by omega)
  clear hE h7 hn3 hkk hkn hnx hla hAT hN2 hd6 hJ1 hl2
  unfold sdC at HB HTD
  unfold sdV at HTD HNX HCL HCS ⊢
  clear hB0 hlm hmm hD hP
  go_enter Try.func4, Try.ntmps4
  go_wp2_with fail
  refine HTD.out.mono ?_
  rintro e w1 ⟨rfl, hb1⟩
  have hba := awG w1 (.cells #[.slice none 0 0, .int .i64 0, .int .i64 0, .int .i64 0, .bool false] 28)
  have hbb := bl2 hb1 hba
  have HB1 := Hid.mk (bl2 HB.out hbb)
  have HR1 := Hid.mk (HR.out.kept hbb)
  have HX1 := Hid.mk (Row5.new w1 28 (.slice none 0 0) (.int .i64 0) (.int .i64 0) (.int .i64 0) (.bool false))
  obtain ⟨a0, a1, a2, a3, a4⟩ := HR1.out.cells
  clear hb1 hba hbb HB HR HTD
  go_wp2_with fail
  generalize w1.alloc (.cells #[.slice none 0 0, .int .i64 0, .int .i64 0, .int .i64 0, .bool false] 28) = W1 at *
  generalize w1.heap.size = s1 at *
  refine (HNX.out _ HB1.out).mono ?_
  rintro e w2 ⟨g2, c2, gp, cp, rfl, hg2, hgp, hf2, hfp, hb2⟩
  have hba := awG w2 (.cells #[.slice (some ⟨g2, 0, none⟩) n c2, .int .i64 (AT : Int), .int .i64 (N2 : Int), .int .i64 (left - 1), .bool false] 28)
  have hbb := bl2 hb2 hba
  have HB2 := Hid.mk (bl2 HB1.out hbb)
  have HR2 := Hid.mk (HR1.out.kept hbb)
  have HX2 := Hid.mk (HX1.out.kept hbb)
  have HY2 := Hid.mk (Row5.new w2 28 (.slice (some ⟨g2, 0, none⟩) n c2) (.int .i64 (AT : Int)) (.int .i64 (N2 : Int)) (.int .i64 (left - 1)) (.bool false))
  have HF2 := Hid.mk (isBytes_below hf2 hba)
  have HFP := Hid.mk (isBytes_below hfp hba)
  clear hf2 hfp hg2 hgp hb2 hba hbb HB1 HR1 HX1 HNX a0 a1 a2 a3 a4
  obtain ⟨a0, a1, a2, a3, a4⟩ := HR2.out.cells
  go_wp2_with fail
  generalize w2.alloc (.cells #[.slice (some ⟨g2, 0, none⟩) n c2, .int .i64 (AT : Int), .int .i64 (N2 : Int), .int .i64 (left - 1), .bool false] 28) = W2 at *
  generalize w2.heap.size = s2 at *
  refine (HCL.out _).mono ?_
  rintro e w3 ⟨rfl, hb3⟩
  clear HCL a0 a1 a2 a3 a4
  go_wp2_with fail
  refine (hPT _).mono ?_
  rintro e w4 ⟨rfl, hb4⟩
  have hb4' := bl2 hb3 hb4
  obtain ⟨a0, a1, a2, a3, a4⟩ := (HR2.out.kept hb4').cells
  clear hb3 hb4
  go_wp2_with fail
  refine (HCS.out _).mono ?_
  rintro e w5 ⟨rfl, hb5⟩
  have hb5' := bl2 hb4' hb5
  have HB5 := Hid.mk (bl2 HB2.out hb5')
  have HR5 := Hid.mk (HR2.out.kept hb5')
  have HX5 := Hid.mk (HX2.out.kept hb5')
  have HY5 := Hid.mk (HY2.out.kept hb5')
  have HF2 := Hid.mk (isBytes_below HF2.out hb5')
  have HFP := Hid.mk (isBytes_below HFP.out hb5')
  clear hb4' hb5 hb5' HB2 HR2 HX2 HY2 HCS a0 a1 a2 a3 a4
  have HRS : Hid (w.heap.size < w5.heap.size) := Hid.mk HR5.out.lt
  have HYS : Hid (s2 < w5.heap.size) := Hid.mk HY5.out.lt
  have HGS : Hid (g2 < w5.heap.size) := Hid.mk (isBytes_lt HF2.out HN0.out)
  have HPS : Hid (gp < w5.heap.size) := Hid.mk (isBytes_lt HFP.out (by unfold npL; simp))
  have hq5 := awG w5 (.cells #[.slice (some x) n cap, .int .i64 (kk : Int), .int .i64 (nx : Int), .int .i64 left, .bool false] 28)
  have HW6 := Hid.mk (Row5.new w5 28 (.slice (some x) n cap) (.int .i64 (kk : Int)) (.int .i64 (nx : Int)) (.int .i64 left) (.bool false))
  have HB6 := Hid.mk (bl2 HB5.out hq5)
  have HR6 := Hid.mk (HR5.out.kept hq5)
  have HX6 := Hid.mk (HX5.out.kept hq5)
  have HY6 := Hid.mk (HY5.out.kept hq5)
  obtain ⟨i0, i1, i2, i3, i4⟩ := HR5.out.cells
  obtain ⟨k0, k1, k2, k3, k4⟩ := HR6.out.cells
  have HF2 := Hid.mk (isBytes_below HF2.out hq5)
  have HFP := Hid.mk (isBytes_below HFP.out hq5)
  clear hq5 HB5 HR5 HX5 HY5
  have d0 := cell_kept HB6.out HY0.out
  obtain ⟨x0, x1, x2, x3, x4⟩ := HX6.out.cells
  go_wp2_with fail
  generalize (w5.alloc (.cells #[.slice (some x) n cap, .int .i64 (kk : Int), .int .i64 (nx : Int), .int .i64 left, .bool false] 28)) = W6 at *
  refine (HSZ.out _).mono ?_
  rintro e w7 ⟨rfl, hb7⟩
  have HB7 := Hid.mk (bl2 HB6.out hb7)
  have HR7 := Hid.mk (HR6.out.kept hb7)
  have HY7 := Hid.mk (HY6.out.kept hb7)
  have HW7 := Hid.mk (HW6.out.kept hb7)
  have HF2 := Hid.mk (isBytes_below HF2.out hb7)
  have HFP := Hid.mk (isBytes_below HFP.out hb7)
  clear hb7 HB6 HR6 HX6 HY6 HW6 x0 x1 x2 x3 x4 i0 i1 i2 i3 i4 k0 k1 k2 k3 k4
  obtain ⟨k0, k1, k2, k3, k4⟩ := HR7.out.cells
  generalize w5.heap.size = s5 at *
  go_wp2_with fail
  have HWL := Hid.mk HW7.out.lt
  refine (HPO.out _ HB7.out).mono ?_
  rintro e w8 ⟨gx, cq, NP, rfl, hNP, hpf, hb8⟩
  obtain ⟨hgx, hpk⟩ := hpf
  obtain ⟨yk, dk, zk, hck, hbk, hyk⟩ := hpk J1 (by have := HJN.out; omega)
  rw [HNL.out] at hbk
  have hJNP : J1 < NP := by have := HJN.out; omega
  have hJNPi : (J1 : Int) < (NP : Int) := by omega
  have HB8 := Hid.mk (bl2 HB7.out hb8)
  have HR8 := Hid.mk (HR7.out.kept hb8)
  have HY8 := Hid.mk (HY7.out.kept hb8)
  have HW8 := Hid.mk (HW7.out.kept hb8)
  have HF2 := Hid.mk (isBytes_below HF2.out hb8)
  have HFP := Hid.mk (isBytes_below HFP.out hb8)
  have HBK := Hid.mk hbk
  have HCK := Hid.mk hck
  have HKS : Hid (s5 < yk.block) := Hid.mk (by have := HWL.out; omega)
  have HKX : Hid (s5 < gx.block) := Hid.mk (by have := HWL.out; omega)
  clear hgx hpk hbk hck hyk hb8 HB7 HR7 HY7 HW7 k0 k1 k2 k3 k4 hNP HPO
  obtain ⟨k0, k1, k2, k3, k4⟩ := HR8.out.cells
  have hne4 : w.heap.size ≠ s5 := by have := HRS.out; omega
  have hle4 : w.heap.size ≤ s5 := by have := HRS.out; omega
  have hne2 : s2 ≠ s5 := by have := HYS.out; omega
  have hneg : g2 ≠ s5 := by have := HGS.out; omega
  have hnep : gp ≠ s5 := by have := HPS.out; omega
  have hnek : yk.block ≠ s5 := by have := HKS.out; omega
  have hnex : gx.block ≠ s5 := by have := HKX.out; omega
  have hned : x.block ≠ s5 := by have := HDL.out; omega
  have HDW := Hid.mk (isBytes_below HDD.out HB8.out)
  obtain ⟨⟨z0, z1, z2, z3, z4⟩, ⟨y0, y1, y2, y3, y4⟩, ⟨p1, r1⟩, ⟨p2, r2⟩, ⟨p3, r3⟩, ⟨p4, r4⟩, hSX⟩ := HW8.out.ready (.slice (some x) n cap) (.int .i64 (kk : Int)) (.int .i64 (nx : Int)) (.int .i64 left) (.bool false)
  have HW9 := Hid.mk hSX
  have HB9 := Hid.mk (set5_below HB8.out hle4 (.slice (some x) n cap) (.int .i64 (kk : Int)) (.int .i64 (nx : Int)) (.int .i64 left) (.bool false))
  have HR9 := Hid.mk (HR8.out.far5 hne4 (.slice (some x) n cap) (.int .i64 (kk : Int)) (.int .i64 (nx : Int)) (.int .i64 left) (.bool false))
  have HY9 := Hid.mk (HY8.out.far5 hne2 (.slice (some x) n cap) (.int .i64 (kk : Int)) (.int .i64 (nx : Int)) (.int .i64 left) (.bool false))
  have HF2 := Hid.mk (isBytes_set5 HF2.out hneg (.slice (some x) n cap) (.int .i64 (kk : Int)) (.int .i64 (nx : Int)) (.int .i64 left) (.bool false))
  have HFP := Hid.mk (isBytes_set5 HFP.out hnep (.slice (some x) n cap) (.int .i64 (kk : Int)) (.int .i64 (nx : Int)) (.int .i64 left) (.bool false))
  have HBK := Hid.mk (isBytes_set5 HBK.out hnek (.slice (some x) n cap) (.int .i64 (kk : Int)) (.int .i64 (nx : Int)) (.int .i64 left) (.bool false))
  have HDW := Hid.mk (isBytes_set5 HDW.out hned (.slice (some x) n cap) (.int .i64 (kk : Int)) (.int .i64 (nx : Int)) (.int .i64 left) (.bool false))
  have HCK := Hid.mk (cell_set5 hnex HCK.out (.slice (some x) n cap) (.int .i64 (kk : Int)) (.int .i64 (nx : Int)) (.int .i64 left) (.bool false))
  unfold set5 at HW9 HB9 HF2 HFP HBK HDW HCK
  clear hSX HB8 HR8 HY8 HW8
  iterate 42 (first | go_values | go_skip | go_guarded | go_step | go_upon | go_back | go_simp | (go_values <;> (try go_simp)) | (go_ite <;> go_prune <;> (try go_simp)) | (split <;> (first | (rename_i hx; exact (hx _ rfl).elim) | go_prune)))
  generalize (((((w8.setCell ⟨s5, 0, none⟩ (.slice (some x) n cap)).setCell ⟨s5, 1, none⟩ (.int .i64 (kk : Int))).setCell ⟨s5, 2, none⟩ (.int .i64 (nx : Int))).setCell ⟨s5, 3, none⟩ (.int .i64 left)).setCell ⟨s5, 4, none⟩ (.bool false)) = W9 at *
  clear z0 z1 z2 z3 z4 y0 y1 y2 y3 y4 p1 r1 p2 r2 p3 r3 p4 r4 k0 k1 k2 k3 k4
  obtain ⟨k0, k1, k2, k3, k4⟩ := HR9.out.cells
  obtain ⟨z0, z1, z2, z3, z4⟩ := HW9.out.cells
  have ff := HW9.out.frozen 1
  have HB9 := Hid.mk (HB9.out.setCell (p := ⟨s5, 1, none⟩) hle4 (.int .i64 (AT : Int)))
  have HR9 := Hid.mk (HR9.out.far hne4 1 (.int .i64 (AT : Int)))
  have HY9 := Hid.mk (HY9.out.far hne2 1 (.int .i64 (AT : Int)))
  have HW9 := Hid.mk (HW9.out.set (.int .i64 (AT : Int))).1.2.1
  have HF2 := Hid.mk (isBytes_set HF2.out hneg 1 (.int .i64 (AT : Int)))
  have HFP := Hid.mk (isBytes_set HFP.out hnep 1 (.int .i64 (AT : Int)))
  have HBK := Hid.mk (isBytes_set HBK.out hnek 1 (.int .i64 (AT : Int)))
  have HDW := Hid.mk (isBytes_set HDW.out hned 1 (.int .i64 (AT : Int)))
  have HCK := Hid.mk (cell_setK hnex HCK.out 1 (.int .i64 (AT : Int)))
  iterate 32 (first | go_values | go_skip | go_guarded | go_step | go_upon | go_back | go_simp | (go_values <;> (try go_simp)) | (go_ite <;> go_prune <;> (try go_simp)) | (split <;> (first | (rename_i hx; exact (hx _ rfl).elim) | go_prune)))
  rw [HMN.out]
  generalize W9.setCell ⟨s5, 1, none⟩ (.int .i64 (AT : Int)) = W10 at *
  clear ff z0 z1 z2 z3 z4 k0 k1 k2 k3 k4
  obtain ⟨k0, k1, k2, k3, k4⟩ := HR9.out.cells
  obtain ⟨z0, z1, z2, z3, z4⟩ := HW9.out.cells
  have ff := HW9.out.frozen 2
  have HB9 := Hid.mk (HB9.out.setCell (p := ⟨s5, 2, none⟩) hle4 (.int .i64 (N2 : Int)))
  have HR9 := Hid.mk (HR9.out.far hne4 2 (.int .i64 (N2 : Int)))
  have HY9 := Hid.mk (HY9.out.far hne2 2 (.int .i64 (N2 : Int)))
  have HW9 := Hid.mk (HW9.out.set (.int .i64 (N2 : Int))).1.2.2
  have HF2 := Hid.mk (isBytes_set HF2.out hneg 2 (.int .i64 (N2 : Int)))
  have HFP := Hid.mk (isBytes_set HFP.out hnep 2 (.int .i64 (N2 : Int)))
  have HBK := Hid.mk (isBytes_set HBK.out hnek 2 (.int .i64 (N2 : Int)))
  have HDW := Hid.mk (isBytes_set HDW.out hned 2 (.int .i64 (N2 : Int)))
  have HCK := Hid.mk (cell_setK hnex HCK.out 2 (.int .i64 (N2 : Int)))
  iterate 23 (first | go_values | go_skip | go_guarded | go_step | go_upon | go_back | go_simp | (go_values <;> (try go_simp)) | (go_ite <;> go_prune <;> (try go_simp)) | (split <;> (first | (rename_i hx; exact (hx _ rfl).elim) | go_prune)))
  generalize W10.setCell ⟨s5, 2, none⟩ (.int .i64 (N2 : Int)) = W11 at *
  clear ff z0 z1 z2 z3 z4 k0 k1 k2 k3 k4
  obtain ⟨k0, k1, k2, k3, k4⟩ := HR9.out.cells
  obtain ⟨z0, z1, z2, z3, z4⟩ := HW9.out.cells
  have ff := HW9.out.frozen 4
  have HB9 := Hid.mk (HB9.out.setCell (p := ⟨s5, 4, none⟩) hle4 (.bool false))
  have HR9 := Hid.mk (HR9.out.far hne4 4 (.bool false))
  have HY9 := Hid.mk (HY9.out.far hne2 4 (.bool false))
  have HW9 := Hid.mk (HW9.out.set (.bool false)).2.2
  have HF2 := Hid.mk (isBytes_set HF2.out hneg 4 (.bool false))
  have HFP := Hid.mk (isBytes_set HFP.out hnep 4 (.bool false))
  have HBK := Hid.mk (isBytes_set HBK.out hnek 4 (.bool false))
  have HDW := Hid.mk (isBytes_set HDW.out hned 4 (.bool false))
  have HCK := Hid.mk (cell_setK hnex HCK.out 4 (.bool false))
  iterate 29 (first | go_values | go_skip | go_guarded | go_step | go_upon | go_back | go_simp | (go_values <;> (try go_simp)) | (go_ite <;> go_prune <;> (try go_simp)) | (split <;> (first | (rename_i hx; exact (hx _ rfl).elim) | go_prune)))
  generalize W11.setCell ⟨s5, 4, none⟩ (.bool false) = W12 at *
  clear ff z0 z1 z2 z3 z4 k0 k1 k2 k3 k4
  obtain ⟨k0, k1, k2, k3, k4⟩ := HR9.out.cells
  obtain ⟨z0, z1, z2, z3, z4⟩ := HW9.out.cells
  have ff := HW9.out.frozen 3
  have HB9 := Hid.mk (HB9.out.setCell (p := ⟨s5, 3, none⟩) hle4 (.int .i64 (left - 1)))
  have HR9 := Hid.mk (HR9.out.far hne4 3 (.int .i64 (left - 1)))
  have HY9 := Hid.mk (HY9.out.far hne2 3 (.int .i64 (left - 1)))
  have HW9 := Hid.mk (HW9.out.set (.int .i64 (left - 1))).2.1
  have HF2 := Hid.mk (isBytes_set HF2.out hneg 3 (.int .i64 (left - 1)))
  have HFP := Hid.mk (isBytes_set HFP.out hnep 3 (.int .i64 (left - 1)))
  have HBK := Hid.mk (isBytes_set HBK.out hnek 3 (.int .i64 (left - 1)))
  have HDW := Hid.mk (isBytes_set HDW.out hned 3 (.int .i64 (left - 1)))
  have HCK := Hid.mk (cell_setK hnex HCK.out 3 (.int .i64 (left - 1)))
  obtain ⟨at0, at1, at2, at3, at4⟩ := HR9.out.cells
  obtain ⟨bt0, bt1, bt2, bt3, bt4⟩ := HW9.out.cells
  have hck := HCK.out
  have HEQ := Hid.mk (equal_is HFP.out HBK.out)
  go_wp2_with fail
  refine HEQ.out.mono ?_
  rintro e w9 ⟨rfl, hb9⟩
  have HB9 := Hid.mk (bl2 HB9.out hb9)
  have HSS := Hid.mk (sameSender_true (some ⟨g2, 0, none⟩) (some x) n n c2 cap l (AT : Int) (N2 : Int) (left - 1) false w9 (isBytes_below HF2.out hb9) (isBytes_below HDW.out hb9))
  unfold sdV at HSS
  obtain ⟨x0, x1, x2, x3, x4⟩ := (HY9.out.kept hb9).cells
  obtain ⟨u0, u1, u2, u3, u4⟩ := (HW9.out.kept hb9).cells
  clear hb9
  go_wp2_with fail
  refine HSS.out.mono ?_
  rintro e w10 ⟨rfl, hb10⟩
  have HB10 := Hid.mk (bl2 HB9.out hb10)
  clear hb10
  go_wp2_with fail
  go_ret
  exact ⟨by first | rfl | simp, HB10.out⟩
set_option maxHeartbeats 8000000 in
set_option maxRecDepth 100000 in
theorem ptold_more_high (x : Addr) (n cap kk nx j : Nat) (left : Int) (y : Addr) (mc : Nat) (l p : List UInt8) (w : World) (hD : IsBytes w (some x) n cap l) (hP : IsBytes w (some y) 3 mc p) (hE : sdE n (kk : Int) (nx : Int) left false = 0) (hlf : left ≠ -1) (c0 : Nat) (hc0 : c0 < 256) (hy : w.cell? y = some (.int .u8 (c0 : Int))) (hc : 50 < c0) (h7 : 7 < n) (hn3 : n ≤ 300) (hkk : kk = 6 + 7 * j) (hkn : kk < n) (hnx : nx < 16) (hl2 : 2 ≤ left) (hl1 : left ≤ 255) (hla : kk + 7 < n)  :
    Calls Try.prog 4 #[sdV (some x) n cap (kk : Int) (nx : Int) left false, .slice (some y) 3 mc] w fun e w' => e = .returned (.bool true) ∧ Below w.heap.size w w' := by
  have hB0 := awG w (sdC (some x) n cap (kk : Int) (nx : Int) left false)
  have hlm : n ≤ maxLen := Nat.le_trans hD.2.1 hD.2.2.1
  have hmm : 3 ≤ maxLen := Nat.le_trans hP.2.1 hP.2.2.1
  have HTD := Hid.mk (told_byte (some x) n cap (kk : Int) (nx : Int) left false (some y) 3 mc (w.alloc (sdC (some x) n cap (kk : Int) (nx : Int) left false)) hlm hmm hE y c0 hc0 rfl rfl (cell_kept hB0 hy) (by omega))
  have HNX := Hid.mk (fun (W : World) (hW : Below w.heap.size w W) => next_more (some x) n cap kk nx left W hlm hE hlf (by omega) (by omega) hnx x l rfl (isBytes_below hD hW) hkn hn3 hla)
  have HCL := Hid.mk (fun W => lcheckSender_any (some x) n cap (kk : Int) (nx : Int) left false W hlm)
  have HCS := Hid.mk (fun W => checkSender_any (some x) n cap (kk : Int) (nx : Int) left false W hlm)
  have hPT := fun W => parted_any W
  have HR := Hid.mk (Row5.new w 28 (.slice (some x) n cap) (.int .i64 (kk : Int)) (.int .i64 (nx : Int)) (.int .i64 left) (.bool false))
  have HB := Hid.mk hB0
  have HDD := Hid.mk hD
  have hmli : (3 : Int) ≤ 9223372036854775807 := by unfold maxLen at hmm; omega
  rw [hE] at HCL HCS
  have HSZ : Hid (∀ W : World, Calls Try.prog 13 #[sdV none 0 0 0 0 0 false, sdV none 0 0 0 0 0 false] W fun e w' => e = .returned (.bool true) ∧ Below W.heap.size W w') := Hid.mk (fun W => sameSender_true none none 0 0 0 0 [] 0 0 0 false W ⟨rfl, Nat.le_refl _, Nat.zero_le _, fun _ => rfl, fun y hy => by cases hy⟩ ⟨rfl, Nat.le_refl _, Nat.zero_le _, fun _ => rfl, fun y hy => by cases hy⟩)
  unfold sdV at HSZ
  have q1 : ¬ ((c0 : Int) < 48) := by omega
  have q2 : (50 : Int) < (c0 : Int) := by omega
  have HY0 := Hid.mk hy
  clear hc hc0 hy
  have HPO := Hid.mk (fun (W : World) (hW : Below w.heap.size w W) => partsOf_at x n cap l W (isBytes_below hD hW) h7 hn3)
  obtain ⟨AT, hAT⟩ : ∃ AT, AT = kk + 7 := ⟨_, rfl⟩
  obtain ⟨N2, hN2⟩ : ∃ N2, N2 = (nx + 1) % 16 := ⟨_, rfl⟩
  rw [← hN2] at HNX
  rw [← hAT] at HNX
  rw [show lbI left = left - 1 by unfold lbI; rw [if_neg (by omega), if_neg (by omega)]] at HNX
  have hr0 : ((nx : Int) + 1).tmod 16 = (N2 : Int) := by rw [Int.tmod_eq_emod_of_nonneg (by omega)]; omega
  have hrw : IntKind.i64.wrap (((nx : Int) + 1).tmod 16) = (N2 : Int) := by rw [hr0, IntKind.wrap_i64]; omega
  have hN2b : (N2 : Int) ≤ 15 := by omega
  have hnxb : (nx : Int) ≤ 15 := by omega
  have hkb : (kk : Int) ≤ 300 := by omega
  have hatI : (kk : Int) + 7 = (AT : Int) := by omega
  have hATb : (AT : Int) ≤ 307 := by omega
  have hni : (n : Int) ≤ 300 := by omega
  obtain ⟨d6, hd6⟩ : ∃ d6, d6 = 7 * j := ⟨_, rfl⟩
  have hk6 : (kk : Int) - 6 = (d6 : Int) := by omega
  have hd6b : (d6 : Int) ≤ 300 := by omega
  have hdv0 : (d6 : Int).tdiv 7 = (j : Int) := by rw [Int.tdiv_eq_ediv_of_nonneg (by omega)]; omega
  have hdv : IntKind.i64.wrap ((d6 : Int).tdiv 7) = (j : Int) := by rw [hdv0, IntKind.wrap_i64]; omega
  have hjb : (j : Int) ≤ 43 := by omega
  obtain ⟨J1, hJ1⟩ : ∃ J1, J1 = j + 1 := ⟨_, rfl⟩
  have hj1 : (j : Int) + 1 = (J1 : Int) := by omega
  have hJb : (J1 : Int) ≤ 44 := by omega
  have HJN : Hid (J1 < 1 + nxN n) := Hid.mk (by unfold nxN; rw [if_neg (by omega)]; omega)
  have HNL : Hid ((partsL l).getD J1 [] = npL l kk) := Hid.mk (by rw [hJ1, parts_next (by rw [hD.1]; unfold nxN; rw [if_neg (by omega)]; omega), ← hkk])
  have HDL : Hid (x.block < w.heap.size) := Hid.mk (isBytes_lt hD (by omega))
  have HMN : Hid ((if n < AT then (n : Int) else (AT : Int)) = (AT : Int)) := Hid.mk (by split <;> omega)
  have hae : ((AT : Int) == (n : Int)) = false := by simp; omega
  have hlm1 : (left == -1) = false := by simp; omega
  have hlm2 : (left != -1) = true := by simp; omega
  have hle1 : (left == 1) = false := by simp; omega
  have hgt1 : (1 : Int) < left := by omega
  have HN0 : Hid (0 < n) := Hid.mk (by omega)
  clear hE h7 hn3 hkk hkn hnx hla hAT hN2 hd6 hJ1 hl2
  unfold sdC at HB HTD
  unfold sdV at HTD HNX HCL HCS ⊢
  clear hB0 hlm hmm hD hP
  go_enter Try.func4, Try.ntmps4
  go_wp2_with fail
  refine HTD.out.mono ?_
  rintro e w1 ⟨rfl, hb1⟩
  have hba := awG w1 (.cells #[.slice none 0 0, .int .i64 0, .int .i64 0, .int .i64 0, .bool false] 28)
  have hbb := bl2 hb1 hba
  have HB1 := Hid.mk (bl2 HB.out hbb)
  have HR1 := Hid.mk (HR.out.kept hbb)
  have HX1 := Hid.mk (Row5.new w1 28 (.slice none 0 0) (.int .i64 0) (.int .i64 0) (.int .i64 0) (.bool false))
  obtain ⟨a0, a1, a2, a3, a4⟩ := HR1.out.cells
  clear hb1 hba hbb HB HR HTD
  go_wp2_with fail
  generalize w1.alloc (.cells #[.slice none 0 0, .int .i64 0, .int .i64 0, .int .i64 0, .bool false] 28) = W1 at *
  generalize w1.heap.size = s1 at *
  refine (HNX.out _ HB1.out).mono ?_
  rintro e w2 ⟨g2, c2, gp, cp, rfl, hg2, hgp, hf2, hfp, hb2⟩
  have hba := awG w2 (.cells #[.slice (some ⟨g2, 0, none⟩) n c2, .int .i64 (AT : Int), .int .i64 (N2 : Int), .int .i64 (left - 1), .bool false] 28)
  have hbb := bl2 hb2 hba
  have HB2 := Hid.mk (bl2 HB1.out hbb)
  have HR2 := Hid.mk (HR1.out.kept hbb)
  have HX2 := Hid.mk (HX1.out.kept hbb)
  have HY2 := Hid.mk (Row5.new w2 28 (.slice (some ⟨g2, 0, none⟩) n c2) (.int .i64 (AT : Int)) (.int .i64 (N2 : Int)) (.int .i64 (left - 1)) (.bool false))
  have HF2 := Hid.mk (isBytes_below hf2 hba)
  have HFP := Hid.mk (isBytes_below hfp hba)
  clear hf2 hfp hg2 hgp hb2 hba hbb HB1 HR1 HX1 HNX a0 a1 a2 a3 a4
  obtain ⟨a0, a1, a2, a3, a4⟩ := HR2.out.cells
  go_wp2_with fail
  generalize w2.alloc (.cells #[.slice (some ⟨g2, 0, none⟩) n c2, .int .i64 (AT : Int), .int .i64 (N2 : Int), .int .i64 (left - 1), .bool false] 28) = W2 at *
  generalize w2.heap.size = s2 at *
  refine (HCL.out _).mono ?_
  rintro e w3 ⟨rfl, hb3⟩
  clear HCL a0 a1 a2 a3 a4
  go_wp2_with fail
  refine (hPT _).mono ?_
  rintro e w4 ⟨rfl, hb4⟩
  have hb4' := bl2 hb3 hb4
  obtain ⟨a0, a1, a2, a3, a4⟩ := (HR2.out.kept hb4').cells
  clear hb3 hb4
  go_wp2_with fail
  refine (HCS.out _).mono ?_
  rintro e w5 ⟨rfl, hb5⟩
  have hb5' := bl2 hb4' hb5
  have HB5 := Hid.mk (bl2 HB2.out hb5')
  have HR5 := Hid.mk (HR2.out.kept hb5')
  have HX5 := Hid.mk (HX2.out.kept hb5')
  have HY5 := Hid.mk (HY2.out.kept hb5')
  have HF2 := Hid.mk (isBytes_below HF2.out hb5')
  have HFP := Hid.mk (isBytes_below HFP.out hb5')
  clear hb4' hb5 hb5' HB2 HR2 HX2 HY2 HCS a0 a1 a2 a3 a4
  have HRS : Hid (w.heap.size < w5.heap.size) := Hid.mk HR5.out.lt
  have HYS : Hid (s2 < w5.heap.size) := Hid.mk HY5.out.lt
  have HGS : Hid (g2 < w5.heap.size) := Hid.mk (isBytes_lt HF2.out HN0.out)
  have HPS : Hid (gp < w5.heap.size) := Hid.mk (isBytes_lt HFP.out (by unfold npL; simp))
  have hq5 := awG w5 (.cells #[.slice (some x) n cap, .int .i64 (kk : Int), .int .i64 (nx : Int), .int .i64 left, .bool false] 28)
  have HW6 := Hid.mk (Row5.new w5 28 (.slice (some x) n cap) (.int .i64 (kk : Int)) (.int .i64 (nx : Int)) (.int .i64 left) (.bool false))
  have HB6 := Hid.mk (bl2 HB5.out hq5)
  have HR6 := Hid.mk (HR5.out.kept hq5)
  have HX6 := Hid.mk (HX5.out.kept hq5)
  have HY6 := Hid.mk (HY5.out.kept hq5)
  obtain ⟨i0, i1, i2, i3, i4⟩ := HR5.out.cells
  obtain ⟨k0, k1, k2, k3, k4⟩ := HR6.out.cells
  have HF2 := Hid.mk (isBytes_below HF2.out hq5)
  have HFP := Hid.mk (isBytes_below HFP.out hq5)
  clear hq5 HB5 HR5 HX5 HY5
  have d0 := cell_kept HB6.out HY0.out
  obtain ⟨x0, x1, x2, x3, x4⟩ := HX6.out.cells
  go_wp2_with fail
  generalize (w5.alloc (.cells #[.slice (some x) n cap, .int .i64 (kk : Int), .int .i64 (nx : Int), .int .i64 left, .bool false] 28)) = W6 at *
  refine (HSZ.out _).mono ?_
  rintro e w7 ⟨rfl, hb7⟩
  have HB7 := Hid.mk (bl2 HB6.out hb7)
  have HR7 := Hid.mk (HR6.out.kept hb7)
  have HY7 := Hid.mk (HY6.out.kept hb7)
  have HW7 := Hid.mk (HW6.out.kept hb7)
  have HF2 := Hid.mk (isBytes_below HF2.out hb7)
  have HFP := Hid.mk (isBytes_below HFP.out hb7)
  clear hb7 HB6 HR6 HX6 HY6 HW6 x0 x1 x2 x3 x4 i0 i1 i2 i3 i4 k0 k1 k2 k3 k4
  obtain ⟨k0, k1, k2, k3, k4⟩ := HR7.out.cells
  generalize w5.heap.size = s5 at *
  go_wp2_with fail
  have HWL := Hid.mk HW7.out.lt
  refine (HPO.out _ HB7.out).mono ?_
  rintro e w8 ⟨gx, cq, NP, rfl, hNP, hpf, hb8⟩
  obtain ⟨hgx, hpk⟩ := hpf
  obtain ⟨yk, dk, zk, hck, hbk, hyk⟩ := hpk J1 (by have := HJN.out; omega)
  rw [HNL.out] at hbk
  have hJNP : J1 < NP := by have := HJN.out; omega
  have hJNPi : (J1 : Int) < (NP : Int) := by omega
  have HB8 := Hid.mk (bl2 HB7.out hb8)
  have HR8 := Hid.mk (HR7.out.kept hb8)
  have HY8 := Hid.mk (HY7.out.kept hb8)
  have HW8 := Hid.mk (HW7.out.kept hb8)
  have HF2 := Hid.mk (isBytes_below HF2.out hb8)
  have HFP := Hid.mk (isBytes_below HFP.out hb8)
  have HBK := Hid.mk hbk
  have HCK := Hid.mk hck
  have HKS : Hid (s5 < yk.block) := Hid.mk (by have := HWL.out; omega)
  have HKX : Hid (s5 < gx.block) := Hid.mk (by have := HWL.out; omega)
  clear hgx hpk hbk hck hyk hb8 HB7 HR7 HY7 HW7 k0 k1 k2 k3 k4 hNP HPO
  obtain ⟨k0, k1, k2, k3, k4⟩ := HR8.out.cells
  have hne4 : w.heap.size ≠ s5 := by have := HRS.out; omega
  have hle4 : w.heap.size ≤ s5 := by have := HRS.out; omega
  have hne2 : s2 ≠ s5 := by have := HYS.out; omega
  have hneg : g2 ≠ s5 := by have := HGS.out; omega
  have hnep : gp ≠ s5 := by have := HPS.out; omega
  have hnek : yk.block ≠ s5 := by have := HKS.out; omega
  have hnex : gx.block ≠ s5 := by have := HKX.out; omega
  have hned : x.block ≠ s5 := by have := HDL.out; omega
  have HDW := Hid.mk (isBytes_below HDD.out HB8.out)
  obtain ⟨⟨z0, z1, z2, z3, z4⟩, ⟨y0, y1, y2, y3, y4⟩, ⟨p1, r1⟩, ⟨p2, r2⟩, ⟨p3, r3⟩, ⟨p4, r4⟩, hSX⟩ := HW8.out.ready (.slice (some x) n cap) (.int .i64 (kk : Int)) (.int .i64 (nx : Int)) (.int .i64 left) (.bool false)
  have HW9 := Hid.mk hSX
  have HB9 := Hid.mk (set5_below HB8.out hle4 (.slice (some x) n cap) (.int .i64 (kk : Int)) (.int .i64 (nx : Int)) (.int .i64 left) (.bool false))
  have HR9 := Hid.mk (HR8.out.far5 hne4 (.slice (some x) n cap) (.int .i64 (kk : Int)) (.int .i64 (nx : Int)) (.int .i64 left) (.bool false))
  have HY9 := Hid.mk (HY8.out.far5 hne2 (.slice (some x) n cap) (.int .i64 (kk : Int)) (.int .i64 (nx : Int)) (.int .i64 left) (.bool false))
  have HF2 := Hid.mk (isBytes_set5 HF2.out hneg (.slice (some x) n cap) (.int .i64 (kk : Int)) (.int .i64 (nx : Int)) (.int .i64 left) (.bool false))
  have HFP := Hid.mk (isBytes_set5 HFP.out hnep (.slice (some x) n cap) (.int .i64 (kk : Int)) (.int .i64 (nx : Int)) (.int .i64 left) (.bool false))
  have HBK := Hid.mk (isBytes_set5 HBK.out hnek (.slice (some x) n cap) (.int .i64 (kk : Int)) (.int .i64 (nx : Int)) (.int .i64 left) (.bool false))
  have HDW := Hid.mk (isBytes_set5 HDW.out hned (.slice (some x) n cap) (.int .i64 (kk : Int)) (.int .i64 (nx : Int)) (.int .i64 left) (.bool false))
  have HCK := Hid.mk (cell_set5 hnex HCK.out (.slice (some x) n cap) (.int .i64 (kk : Int)) (.int .i64 (nx : Int)) (.int .i64 left) (.bool false))
  unfold set5 at HW9 HB9 HF2 HFP HBK HDW HCK
  clear hSX HB8 HR8 HY8 HW8
  iterate 42 (first | go_values | go_skip | go_guarded | go_step | go_upon | go_back | go_simp | (go_values <;> (try go_simp)) | (go_ite <;> go_prune <;> (try go_simp)) | (split <;> (first | (rename_i hx; exact (hx _ rfl).elim) | go_prune)))
  generalize (((((w8.setCell ⟨s5, 0, none⟩ (.slice (some x) n cap)).setCell ⟨s5, 1, none⟩ (.int .i64 (kk : Int))).setCell ⟨s5, 2, none⟩ (.int .i64 (nx : Int))).setCell ⟨s5, 3, none⟩ (.int .i64 left)).setCell ⟨s5, 4, none⟩ (.bool false)) = W9 at *
  clear z0 z1 z2 z3 z4 y0 y1 y2 y3 y4 p1 r1 p2 r2 p3 r3 p4 r4 k0 k1 k2 k3 k4
  obtain ⟨k0, k1, k2, k3, k4⟩ := HR9.out.cells
  obtain ⟨z0, z1, z2, z3, z4⟩ := HW9.out.cells
  have ff := HW9.out.frozen 1
  have HB9 := Hid.mk (HB9.out.setCell (p := ⟨s5, 1, none⟩) hle4 (.int .i64 (AT : Int)))
  have HR9 := Hid.mk (HR9.out.far hne4 1 (.int .i64 (AT : Int)))
  have HY9 := Hid.mk (HY9.out.far hne2 1 (.int .i64 (AT : Int)))
  have HW9 := Hid.mk (HW9.out.set (.int .i64 (AT : Int))).1.2.1
  have HF2 := Hid.mk (isBytes_set HF2.out hneg 1 (.int .i64 (AT : Int)))
  have HFP := Hid.mk (isBytes_set HFP.out hnep 1 (.int .i64 (AT : Int)))
  have HBK := Hid.mk (isBytes_set HBK.out hnek 1 (.int .i64 (AT : Int)))
  have HDW := Hid.mk (isBytes_set HDW.out hned 1 (.int .i64 (AT : Int)))
  have HCK := Hid.mk (cell_setK hnex HCK.out 1 (.int .i64 (AT : Int)))
  iterate 32 (first | go_values | go_skip | go_guarded | go_step | go_upon | go_back | go_simp | (go_values <;> (try go_simp)) | (go_ite <;> go_prune <;> (try go_simp)) | (split <;> (first | (rename_i hx; exact (hx _ rfl).elim) | go_prune)))
  rw [HMN.out]
  generalize W9.setCell ⟨s5, 1, none⟩ (.int .i64 (AT : Int)) = W10 at *
  clear ff z0 z1 z2 z3 z4 k0 k1 k2 k3 k4
  obtain ⟨k0, k1, k2, k3, k4⟩ := HR9.out.cells
  obtain ⟨z0, z1, z2, z3, z4⟩ := HW9.out.cells
  have ff := HW9.out.frozen 2
  have HB9 := Hid.mk (HB9.out.setCell (p := ⟨s5, 2, none⟩) hle4 (.int .i64 (N2 : Int)))
  have HR9 := Hid.mk (HR9.out.far hne4 2 (.int .i64 (N2 : Int)))
  have HY9 := Hid.mk (HY9.out.far hne2 2 (.int .i64 (N2 : Int)))
  have HW9 := Hid.mk (HW9.out.set (.int .i64 (N2 : Int))).1.2.2
  have HF2 := Hid.mk (isBytes_set HF2.out hneg 2 (.int .i64 (N2 : Int)))
  have HFP := Hid.mk (isBytes_set HFP.out hnep 2 (.int .i64 (N2 : Int)))
  have HBK := Hid.mk (isBytes_set HBK.out hnek 2 (.int .i64 (N2 : Int)))
  have HDW := Hid.mk (isBytes_set HDW.out hned 2 (.int .i64 (N2 : Int)))
  have HCK := Hid.mk (cell_setK hnex HCK.out 2 (.int .i64 (N2 : Int)))
  iterate 23 (first | go_values | go_skip | go_guarded | go_step | go_upon | go_back | go_simp | (go_values <;> (try go_simp)) | (go_ite <;> go_prune <;> (try go_simp)) | (split <;> (first | (rename_i hx; exact (hx _ rfl).elim) | go_prune)))
  generalize W10.setCell ⟨s5, 2, none⟩ (.int .i64 (N2 : Int)) = W11 at *
  clear ff z0 z1 z2 z3 z4 k0 k1 k2 k3 k4
  obtain ⟨k0, k1, k2, k3, k4⟩ := HR9.out.cells
  obtain ⟨z0, z1, z2, z3, z4⟩ := HW9.out.cells
  have ff := HW9.out.frozen 4
  have HB9 := Hid.mk (HB9.out.setCell (p := ⟨s5, 4, none⟩) hle4 (.bool false))
  have HR9 := Hid.mk (HR9.out.far hne4 4 (.bool false))
  have HY9 := Hid.mk (HY9.out.far hne2 4 (.bool false))
  have HW9 := Hid.mk (HW9.out.set (.bool false)).2.2
  have HF2 := Hid.mk (isBytes_set HF2.out hneg 4 (.bool false))
  have HFP := Hid.mk (isBytes_set HFP.out hnep 4 (.bool false))
  have HBK := Hid.mk (isBytes_set HBK.out hnek 4 (.bool false))
  have HDW := Hid.mk (isBytes_set HDW.out hned 4 (.bool false))
  have HCK := Hid.mk (cell_setK hnex HCK.out 4 (.bool false))
  iterate 29 (first | go_values | go_skip | go_guarded | go_step | go_upon | go_back | go_simp | (go_values <;> (try go_simp)) | (go_ite <;> go_prune <;> (try go_simp)) | (split <;> (first | (rename_i hx; exact (hx _ rfl).elim) | go_prune)))
  generalize W11.setCell ⟨s5, 4, none⟩ (.bool false) = W12 at *
  clear ff z0 z1 z2 z3 z4 k0 k1 k2 k3 k4
  obtain ⟨k0, k1, k2, k3, k4⟩ := HR9.out.cells
  obtain ⟨z0, z1, z2, z3, z4⟩ := HW9.out.cells
  have ff := HW9.out.frozen 3
  have HB9 := Hid.mk (HB9.out.setCell (p := ⟨s5, 3, none⟩) hle4 (.int .i64 (left - 1)))
  have HR9 := Hid.mk (HR9.out.far hne4 3 (.int .i64 (left - 1)))
  have HY9 := Hid.mk (HY9.out.far hne2 3 (.int .i64 (left - 1)))
  have HW9 := Hid.mk (HW9.out.set (.int .i64 (left - 1))).2.1
  have HF2 := Hid.mk (isBytes_set HF2.out hneg 3 (.int .i64 (left - 1)))
  have HFP := Hid.mk (isBytes_set HFP.out hnep 3 (.int .i64 (left - 1)))
  have HBK := Hid.mk (isBytes_set HBK.out hnek 3 (.int .i64 (left - 1)))
  have HDW := Hid.mk (isBytes_set HDW.out hned 3 (.int .i64 (left - 1)))
  have HCK := Hid.mk (cell_setK hnex HCK.out 3 (.int .i64 (left - 1)))
  obtain ⟨at0, at1, at2, at3, at4⟩ := HR9.out.cells
  obtain ⟨bt0, bt1, bt2, bt3, bt4⟩ := HW9.out.cells
  have hck := HCK.out
  have HEQ := Hid.mk (equal_is HFP.out HBK.out)
  go_wp2_with fail
  refine HEQ.out.mono ?_
  rintro e w9 ⟨rfl, hb9⟩
  have HB9 := Hid.mk (bl2 HB9.out hb9)
  have HSS := Hid.mk (sameSender_true (some ⟨g2, 0, none⟩) (some x) n n c2 cap l (AT : Int) (N2 : Int) (left - 1) false w9 (isBytes_below HF2.out hb9) (isBytes_below HDW.out hb9))
  unfold sdV at HSS
  obtain ⟨x0, x1, x2, x3, x4⟩ := (HY9.out.kept hb9).cells
  obtain ⟨u0, u1, u2, u3, u4⟩ := (HW9.out.kept hb9).cells
  clear hb9
  go_wp2_with fail
  refine HSS.out.mono ?_
  rintro e w10 ⟨rfl, hb10⟩
  have HB10 := Hid.mk (bl2 HB9.out hb10)
  clear hb10
  go_wp2_with fail
  go_ret
  exact ⟨by first | rfl | simp, HB10.out⟩
set_option maxHeartbeats 8000000 in
set_option maxRecDepth 100000 in
theorem ptold_more_late (x : Addr) (n cap kk nx j : Nat) (left : Int) (y : Addr) (mc : Nat) (l p : List UInt8) (w : World) (hD : IsBytes w (some x) n cap l) (hP : IsBytes w (some y) 3 mc p) (hE : sdE n (kk : Int) (nx : Int) left false = 0) (hlf : left ≠ -1) (c0 : Nat) (hc0 : c0 < 256) (hy : w.cell? y = some (.int .u8 (c0 : Int))) (hc : 48 ≤ c0 ∧ c0 ≤ 50) (h7 : 7 < n) (hn3 : n ≤ 300) (hkk : kk = 6 + 7 * j) (hkn : kk < n) (hnx : nx < 16) (hl2 : 2 ≤ left) (hl1 : left ≤ 255) (hla : kk + 7 < n)  :
    Calls Try.prog 4 #[sdV (some x) n cap (kk : Int) (nx : Int) left false, .slice (some y) 3 mc] w fun e w' => e = .returned (.bool true) ∧ Below w.heap.size w w' := by
  have hB0 := awG w (sdC (some x) n cap (kk : Int) (nx : Int) left false)
  have hlm : n ≤ maxLen := Nat.le_trans hD.2.1 hD.2.2.1
  have hmm : 3 ≤ maxLen := Nat.le_trans hP.2.1 hP.2.2.1
  have HTD := Hid.mk (told_left (some x) n cap (kk : Int) (nx : Int) left (some y) 3 mc (w.alloc (sdC (some x) n cap (kk : Int) (nx : Int) left false)) hlm hmm hE hlf y c0 hc0 rfl rfl (cell_kept hB0 hy) hc)
  have HNX := Hid.mk (fun (W : World) (hW : Below w.heap.size w W) => next_more (some x) n cap kk nx left W hlm hE hlf (by omega) (by omega) hnx x l rfl (isBytes_below hD hW) hkn hn3 hla)
  have HCL := Hid.mk (fun W => lcheckSender_any (some x) n cap (kk : Int) (nx : Int) left false W hlm)
  have HCS := Hid.mk (fun W => checkSender_any (some x) n cap (kk : Int) (nx : Int) left false W hlm)
  have hPT := fun W => parted_any W
  have HR := Hid.mk (Row5.new w 28 (.slice (some x) n cap) (.int .i64 (kk : Int)) (.int .i64 (nx : Int)) (.int .i64 left) (.bool false))
  have HB := Hid.mk hB0
  have HDD := Hid.mk hD
  have hmli : (3 : Int) ≤ 9223372036854775807 := by unfold maxLen at hmm; omega
  rw [hE] at HCL HCS
  have HSZ : Hid (∀ W : World, Calls Try.prog 13 #[sdV none 0 0 0 0 0 false, sdV none 0 0 0 0 0 false] W fun e w' => e = .returned (.bool true) ∧ Below W.heap.size W w') := Hid.mk (fun W => sameSender_true none none 0 0 0 0 [] 0 0 0 false W ⟨rfl, Nat.le_refl _, Nat.zero_le _, fun _ => rfl, fun y hy => by cases hy⟩ ⟨rfl, Nat.le_refl _, Nat.zero_le _, fun _ => rfl, fun y hy => by cases hy⟩)
  unfold sdV at HSZ
  have q1 : ¬ ((c0 : Int) < 48) := by omega
  have q2 : ¬ ((50 : Int) < (c0 : Int)) := by omega
  have HY0 := Hid.mk hy
  clear hc hc0 hy
  have HPO := Hid.mk (fun (W : World) (hW : Below w.heap.size w W) => partsOf_at x n cap l W (isBytes_below hD hW) h7 hn3)
  obtain ⟨AT, hAT⟩ : ∃ AT, AT = kk + 7 := ⟨_, rfl⟩
  obtain ⟨N2, hN2⟩ : ∃ N2, N2 = (nx + 1) % 16 := ⟨_, rfl⟩
  rw [← hN2] at HNX
  rw [← hAT] at HNX
  rw [show lbI left = left - 1 by unfold lbI; rw [if_neg (by omega), if_neg (by omega)]] at HNX
  have hr0 : ((nx : Int) + 1).tmod 16 = (N2 : Int) := by rw [Int.tmod_eq_emod_of_nonneg (by omega)]; omega
  have hrw : IntKind.i64.wrap (((nx : Int) + 1).tmod 16) = (N2 : Int) := by rw [hr0, IntKind.wrap_i64]; omega
  have hN2b : (N2 : Int) ≤ 15 := by omega
  have hnxb : (nx : Int) ≤ 15 := by omega
  have hkb : (kk : Int) ≤ 300 := by omega
  have hatI : (kk : Int) + 7 = (AT : Int) := by omega
  have hATb : (AT : Int) ≤ 307 := by omega
  have hni : (n : Int) ≤ 300 := by omega
  obtain ⟨d6, hd6⟩ : ∃ d6, d6 = 7 * j := ⟨_, rfl⟩
  have hk6 : (kk : Int) - 6 = (d6 : Int) := by omega
  have hd6b : (d6 : Int) ≤ 300 := by omega
  have hdv0 : (d6 : Int).tdiv 7 = (j : Int) := by rw [Int.tdiv_eq_ediv_of_nonneg (by omega)]; omega
  have hdv : IntKind.i64.wrap ((d6 : Int).tdiv 7) = (j : Int) := by rw [hdv0, IntKind.wrap_i64]; omega
  have hjb : (j : Int) ≤ 43 := by omega
  obtain ⟨J1, hJ1⟩ : ∃ J1, J1 = j + 1 := ⟨_, rfl⟩
  have hj1 : (j : Int) + 1 = (J1 : Int) := by omega
  have hJb : (J1 : Int) ≤ 44 := by omega
  have HJN : Hid (J1 < 1 + nxN n) := Hid.mk (by unfold nxN; rw [if_neg (by omega)]; omega)
  have HNL : Hid ((partsL l).getD J1 [] = npL l kk) := Hid.mk (by rw [hJ1, parts_next (by rw [hD.1]; unfold nxN; rw [if_neg (by omega)]; omega), ← hkk])
  have HDL : Hid (x.block < w.heap.size) := Hid.mk (isBytes_lt hD (by omega))
  have HMN : Hid ((if n < AT then (n : Int) else (AT : Int)) = (AT : Int)) := Hid.mk (by split <;> omega)
  have hae : ((AT : Int) == (n : Int)) = false := by simp; omega
  have hlm1 : (left == -1) = false := by simp; omega
  have hlm2 : (left != -1) = true := by simp; omega
  have hle1 : (left == 1) = false := by simp; omega
  have hgt1 : (1 : Int) < left := by omega
  have HN0 : Hid (0 < n) := Hid.mk (by omega)
  clear hE h7 hn3 hkk hkn hnx hla hAT hN2 hd6 hJ1 hl2
  unfold sdC at HB HTD
  unfold sdV at HTD HNX HCL HCS ⊢
  clear hB0 hlm hmm hD hP
  go_enter Try.func4, Try.ntmps4
  go_wp2_with fail
  refine HTD.out.mono ?_
  rintro e w1 ⟨rfl, hb1⟩
  have hba := awG w1 (.cells #[.slice none 0 0, .int .i64 0, .int .i64 0, .int .i64 0, .bool false] 28)
  have hbb := bl2 hb1 hba
  have HB1 := Hid.mk (bl2 HB.out hbb)
  have HR1 := Hid.mk (HR.out.kept hbb)
  have HX1 := Hid.mk (Row5.new w1 28 (.slice none 0 0) (.int .i64 0) (.int .i64 0) (.int .i64 0) (.bool false))
  obtain ⟨a0, a1, a2, a3, a4⟩ := HR1.out.cells
  clear hb1 hba hbb HB HR HTD
  go_wp2_with fail
  generalize w1.alloc (.cells #[.slice none 0 0, .int .i64 0, .int .i64 0, .int .i64 0, .bool false] 28) = W1 at *
  generalize w1.heap.size = s1 at *
  refine (HNX.out _ HB1.out).mono ?_
  rintro e w2 ⟨g2, c2, gp, cp, rfl, hg2, hgp, hf2, hfp, hb2⟩
  have hba := awG w2 (.cells #[.slice (some ⟨g2, 0, none⟩) n c2, .int .i64 (AT : Int), .int .i64 (N2 : Int), .int .i64 (left - 1), .bool false] 28)
  have hbb := bl2 hb2 hba
  have HB2 := Hid.mk (bl2 HB1.out hbb)
  have HR2 := Hid.mk (HR1.out.kept hbb)
  have HX2 := Hid.mk (HX1.out.kept hbb)
  have HY2 := Hid.mk (Row5.new w2 28 (.slice (some ⟨g2, 0, none⟩) n c2) (.int .i64 (AT : Int)) (.int .i64 (N2 : Int)) (.int .i64 (left - 1)) (.bool false))
  have HF2 := Hid.mk (isBytes_below hf2 hba)
  have HFP := Hid.mk (isBytes_below hfp hba)
  clear hf2 hfp hg2 hgp hb2 hba hbb HB1 HR1 HX1 HNX a0 a1 a2 a3 a4
  obtain ⟨a0, a1, a2, a3, a4⟩ := HR2.out.cells
  go_wp2_with fail
  generalize w2.alloc (.cells #[.slice (some ⟨g2, 0, none⟩) n c2, .int .i64 (AT : Int), .int .i64 (N2 : Int), .int .i64 (left - 1), .bool false] 28) = W2 at *
  generalize w2.heap.size = s2 at *
  refine (HCL.out _).mono ?_
  rintro e w3 ⟨rfl, hb3⟩
  clear HCL a0 a1 a2 a3 a4
  go_wp2_with fail
  refine (hPT _).mono ?_
  rintro e w4 ⟨rfl, hb4⟩
  have hb4' := bl2 hb3 hb4
  obtain ⟨a0, a1, a2, a3, a4⟩ := (HR2.out.kept hb4').cells
  clear hb3 hb4
  go_wp2_with fail
  refine (HCS.out _).mono ?_
  rintro e w5 ⟨rfl, hb5⟩
  have hb5' := bl2 hb4' hb5
  have HB5 := Hid.mk (bl2 HB2.out hb5')
  have HR5 := Hid.mk (HR2.out.kept hb5')
  have HX5 := Hid.mk (HX2.out.kept hb5')
  have HY5 := Hid.mk (HY2.out.kept hb5')
  have HF2 := Hid.mk (isBytes_below HF2.out hb5')
  have HFP := Hid.mk (isBytes_below HFP.out hb5')
  clear hb4' hb5 hb5' HB2 HR2 HX2 HY2 HCS a0 a1 a2 a3 a4
  have HRS : Hid (w.heap.size < w5.heap.size) := Hid.mk HR5.out.lt
  have HYS : Hid (s2 < w5.heap.size) := Hid.mk HY5.out.lt
  have HGS : Hid (g2 < w5.heap.size) := Hid.mk (isBytes_lt HF2.out HN0.out)
  have HPS : Hid (gp < w5.heap.size) := Hid.mk (isBytes_lt HFP.out (by unfold npL; simp))
  have hq5 := awG w5 (.cells #[.slice (some x) n cap, .int .i64 (kk : Int), .int .i64 (nx : Int), .int .i64 left, .bool false] 28)
  have HW6 := Hid.mk (Row5.new w5 28 (.slice (some x) n cap) (.int .i64 (kk : Int)) (.int .i64 (nx : Int)) (.int .i64 left) (.bool false))
  have HB6 := Hid.mk (bl2 HB5.out hq5)
  have HR6 := Hid.mk (HR5.out.kept hq5)
  have HX6 := Hid.mk (HX5.out.kept hq5)
  have HY6 := Hid.mk (HY5.out.kept hq5)
  obtain ⟨i0, i1, i2, i3, i4⟩ := HR5.out.cells
  obtain ⟨k0, k1, k2, k3, k4⟩ := HR6.out.cells
  have HF2 := Hid.mk (isBytes_below HF2.out hq5)
  have HFP := Hid.mk (isBytes_below HFP.out hq5)
  clear hq5 HB5 HR5 HX5 HY5
  have d0 := cell_kept HB6.out HY0.out
  obtain ⟨x0, x1, x2, x3, x4⟩ := HX6.out.cells
  go_wp2_with fail
  generalize (w5.alloc (.cells #[.slice (some x) n cap, .int .i64 (kk : Int), .int .i64 (nx : Int), .int .i64 left, .bool false] 28)) = W6 at *
  refine (HSZ.out _).mono ?_
  rintro e w7 ⟨rfl, hb7⟩
  have HB7 := Hid.mk (bl2 HB6.out hb7)
  have HR7 := Hid.mk (HR6.out.kept hb7)
  have HY7 := Hid.mk (HY6.out.kept hb7)
  have HW7 := Hid.mk (HW6.out.kept hb7)
  have HF2 := Hid.mk (isBytes_below HF2.out hb7)
  have HFP := Hid.mk (isBytes_below HFP.out hb7)
  clear hb7 HB6 HR6 HX6 HY6 HW6 x0 x1 x2 x3 x4 i0 i1 i2 i3 i4 k0 k1 k2 k3 k4
  obtain ⟨k0, k1, k2, k3, k4⟩ := HR7.out.cells
  generalize w5.heap.size = s5 at *
  go_wp2_with fail
  have HWL := Hid.mk HW7.out.lt
  refine (HPO.out _ HB7.out).mono ?_
  rintro e w8 ⟨gx, cq, NP, rfl, hNP, hpf, hb8⟩
  obtain ⟨hgx, hpk⟩ := hpf
  obtain ⟨yk, dk, zk, hck, hbk, hyk⟩ := hpk J1 (by have := HJN.out; omega)
  rw [HNL.out] at hbk
  have hJNP : J1 < NP := by have := HJN.out; omega
  have hJNPi : (J1 : Int) < (NP : Int) := by omega
  have HB8 := Hid.mk (bl2 HB7.out hb8)
  have HR8 := Hid.mk (HR7.out.kept hb8)
  have HY8 := Hid.mk (HY7.out.kept hb8)
  have HW8 := Hid.mk (HW7.out.kept hb8)
  have HF2 := Hid.mk (isBytes_below HF2.out hb8)
  have HFP := Hid.mk (isBytes_below HFP.out hb8)
  have HBK := Hid.mk hbk
  have HCK := Hid.mk hck
  have HKS : Hid (s5 < yk.block) := Hid.mk (by have := HWL.out; omega)
  have HKX : Hid (s5 < gx.block) := Hid.mk (by have := HWL.out; omega)
  clear hgx hpk hbk hck hyk hb8 HB7 HR7 HY7 HW7 k0 k1 k2 k3 k4 hNP HPO
  obtain ⟨k0, k1, k2, k3, k4⟩ := HR8.out.cells
  have hne4 : w.heap.size ≠ s5 := by have := HRS.out; omega
  have hle4 : w.heap.size ≤ s5 := by have := HRS.out; omega
  have hne2 : s2 ≠ s5 := by have := HYS.out; omega
  have hneg : g2 ≠ s5 := by have := HGS.out; omega
  have hnep : gp ≠ s5 := by have := HPS.out; omega
  have hnek : yk.block ≠ s5 := by have := HKS.out; omega
  have hnex : gx.block ≠ s5 := by have := HKX.out; omega
  have hned : x.block ≠ s5 := by have := HDL.out; omega
  have HDW := Hid.mk (isBytes_below HDD.out HB8.out)
  obtain ⟨⟨z0, z1, z2, z3, z4⟩, ⟨y0, y1, y2, y3, y4⟩, ⟨p1, r1⟩, ⟨p2, r2⟩, ⟨p3, r3⟩, ⟨p4, r4⟩, hSX⟩ := HW8.out.ready (.slice (some x) n cap) (.int .i64 (kk : Int)) (.int .i64 (nx : Int)) (.int .i64 left) (.bool false)
  have HW9 := Hid.mk hSX
  have HB9 := Hid.mk (set5_below HB8.out hle4 (.slice (some x) n cap) (.int .i64 (kk : Int)) (.int .i64 (nx : Int)) (.int .i64 left) (.bool false))
  have HR9 := Hid.mk (HR8.out.far5 hne4 (.slice (some x) n cap) (.int .i64 (kk : Int)) (.int .i64 (nx : Int)) (.int .i64 left) (.bool false))
  have HY9 := Hid.mk (HY8.out.far5 hne2 (.slice (some x) n cap) (.int .i64 (kk : Int)) (.int .i64 (nx : Int)) (.int .i64 left) (.bool false))
  have HF2 := Hid.mk (isBytes_set5 HF2.out hneg (.slice (some x) n cap) (.int .i64 (kk : Int)) (.int .i64 (nx : Int)) (.int .i64 left) (.bool false))
  have HFP := Hid.mk (isBytes_set5 HFP.out hnep (.slice (some x) n cap) (.int .i64 (kk : Int)) (.int .i64 (nx : Int)) (.int .i64 left) (.bool false))
  have HBK := Hid.mk (isBytes_set5 HBK.out hnek (.slice (some x) n cap) (.int .i64 (kk : Int)) (.int .i64 (nx : Int)) (.int .i64 left) (.bool false))
  have HDW := Hid.mk (isBytes_set5 HDW.out hned (.slice (some x) n cap) (.int .i64 (kk : Int)) (.int .i64 (nx : Int)) (.int .i64 left) (.bool false))
  have HCK := Hid.mk (cell_set5 hnex HCK.out (.slice (some x) n cap) (.int .i64 (kk : Int)) (.int .i64 (nx : Int)) (.int .i64 left) (.bool false))
  unfold set5 at HW9 HB9 HF2 HFP HBK HDW HCK
  clear hSX HB8 HR8 HY8 HW8
  iterate 42 (first | go_values | go_skip | go_guarded | go_step | go_upon | go_back | go_simp | (go_values <;> (try go_simp)) | (go_ite <;> go_prune <;> (try go_simp)) | (split <;> (first | (rename_i hx; exact (hx _ rfl).elim) | go_prune)))
  generalize (((((w8.setCell ⟨s5, 0, none⟩ (.slice (some x) n cap)).setCell ⟨s5, 1, none⟩ (.int .i64 (kk : Int))).setCell ⟨s5, 2, none⟩ (.int .i64 (nx : Int))).setCell ⟨s5, 3, none⟩ (.int .i64 left)).setCell ⟨s5, 4, none⟩ (.bool false)) = W9 at *
  clear z0 z1 z2 z3 z4 y0 y1 y2 y3 y4 p1 r1 p2 r2 p3 r3 p4 r4 k0 k1 k2 k3 k4
  obtain ⟨k0, k1, k2, k3, k4⟩ := HR9.out.cells
  obtain ⟨z0, z1, z2, z3, z4⟩ := HW9.out.cells
  have ff := HW9.out.frozen 1
  have HB9 := Hid.mk (HB9.out.setCell (p := ⟨s5, 1, none⟩) hle4 (.int .i64 (AT : Int)))
  have HR9 := Hid.mk (HR9.out.far hne4 1 (.int .i64 (AT : Int)))
  have HY9 := Hid.mk (HY9.out.far hne2 1 (.int .i64 (AT : Int)))
  have HW9 := Hid.mk (HW9.out.set (.int .i64 (AT : Int))).1.2.1
  have HF2 := Hid.mk (isBytes_set HF2.out hneg 1 (.int .i64 (AT : Int)))
  have HFP := Hid.mk (isBytes_set HFP.out hnep 1 (.int .i64 (AT : Int)))
  have HBK := Hid.mk (isBytes_set HBK.out hnek 1 (.int .i64 (AT : Int)))
  have HDW := Hid.mk (isBytes_set HDW.out hned 1 (.int .i64 (AT : Int)))
  have HCK := Hid.mk (cell_setK hnex HCK.out 1 (.int .i64 (AT : Int)))
  iterate 32 (first | go_values | go_skip | go_guarded | go_step | go_upon | go_back | go_simp | (go_values <;> (try go_simp)) | (go_ite <;> go_prune <;> (try go_simp)) | (split <;> (first | (rename_i hx; exact (hx _ rfl).elim) | go_prune)))
  rw [HMN.out]
  generalize W9.setCell ⟨s5, 1, none⟩ (.int .i64 (AT : Int)) = W10 at *
  clear ff z0 z1 z2 z3 z4 k0 k1 k2 k3 k4
  obtain ⟨k0, k1, k2, k3, k4⟩ := HR9.out.cells
  obtain ⟨z0, z1, z2, z3, z4⟩ := HW9.out.cells
  have ff := HW9.out.frozen 2
  have HB9 := Hid.mk (HB9.out.setCell (p := ⟨s5, 2, none⟩) hle4 (.int .i64 (N2 : Int)))
  have HR9 := Hid.mk (HR9.out.far hne4 2 (.int .i64 (N2 : Int)))
  have HY9 := Hid.mk (HY9.out.far hne2 2 (.int .i64 (N2 : Int)))
  have HW9 := Hid.mk (HW9.out.set (.int .i64 (N2 : Int))).1.2.2
  have HF2 := Hid.mk (isBytes_set HF2.out hneg 2 (.int .i64 (N2 : Int)))
  have HFP := Hid.mk (isBytes_set HFP.out hnep 2 (.int .i64 (N2 : Int)))
  have HBK := Hid.mk (isBytes_set HBK.out hnek 2 (.int .i64 (N2 : Int)))
  have HDW := Hid.mk (isBytes_set HDW.out hned 2 (.int .i64 (N2 : Int)))
  have HCK := Hid.mk (cell_setK hnex HCK.out 2 (.int .i64 (N2 : Int)))
  iterate 23 (first | go_values | go_skip | go_guarded | go_step | go_upon | go_back | go_simp | (go_values <;> (try go_simp)) | (go_ite <;> go_prune <;> (try go_simp)) | (split <;> (first | (rename_i hx; exact (hx _ rfl).elim) | go_prune)))
  generalize W10.setCell ⟨s5, 2, none⟩ (.int .i64 (N2 : Int)) = W11 at *
  clear ff z0 z1 z2 z3 z4 k0 k1 k2 k3 k4
  obtain ⟨k0, k1, k2, k3, k4⟩ := HR9.out.cells
  obtain ⟨z0, z1, z2, z3, z4⟩ := HW9.out.cells
  have ff := HW9.out.frozen 4
  have HB9 := Hid.mk (HB9.out.setCell (p := ⟨s5, 4, none⟩) hle4 (.bool false))
  have HR9 := Hid.mk (HR9.out.far hne4 4 (.bool false))
  have HY9 := Hid.mk (HY9.out.far hne2 4 (.bool false))
  have HW9 := Hid.mk (HW9.out.set (.bool false)).2.2
  have HF2 := Hid.mk (isBytes_set HF2.out hneg 4 (.bool false))
  have HFP := Hid.mk (isBytes_set HFP.out hnep 4 (.bool false))
  have HBK := Hid.mk (isBytes_set HBK.out hnek 4 (.bool false))
  have HDW := Hid.mk (isBytes_set HDW.out hned 4 (.bool false))
  have HCK := Hid.mk (cell_setK hnex HCK.out 4 (.bool false))
  iterate 29 (first | go_values | go_skip | go_guarded | go_step | go_upon | go_back | go_simp | (go_values <;> (try go_simp)) | (go_ite <;> go_prune <;> (try go_simp)) | (split <;> (first | (rename_i hx; exact (hx _ rfl).elim) | go_prune)))
  generalize W11.setCell ⟨s5, 4, none⟩ (.bool false) = W12 at *
  clear ff z0 z1 z2 z3 z4 k0 k1 k2 k3 k4
  obtain ⟨k0, k1, k2, k3, k4⟩ := HR9.out.cells
  obtain ⟨z0, z1, z2, z3, z4⟩ := HW9.out.cells
  have ff := HW9.out.frozen 3
  have HB9 := Hid.mk (HB9.out.setCell (p := ⟨s5, 3, none⟩) hle4 (.int .i64 (left - 1)))
  have HR9 := Hid.mk (HR9.out.far hne4 3 (.int .i64 (left - 1)))
  have HY9 := Hid.mk (HY9.out.far hne2 3 (.int .i64 (left - 1)))
  have HW9 := Hid.mk (HW9.out.set (.int .i64 (left - 1))).2.1
  have HF2 := Hid.mk (isBytes_set HF2.out hneg 3 (.int .i64 (left - 1)))
  have HFP := Hid.mk (isBytes_set HFP.out hnep 3 (.int .i64 (left - 1)))
  have HBK := Hid.mk (isBytes_set HBK.out hnek 3 (.int .i64 (left - 1)))
  have HDW := Hid.mk (isBytes_set HDW.out hned 3 (.int .i64 (left - 1)))
  have HCK := Hid.mk (cell_setK hnex HCK.out 3 (.int .i64 (left - 1)))
  obtain ⟨at0, at1, at2, at3, at4⟩ := HR9.out.cells
  obtain ⟨bt0, bt1, bt2, bt3, bt4⟩ := HW9.out.cells
  have hck := HCK.out
  have HEQ := Hid.mk (equal_is HFP.out HBK.out)
  go_wp2_with fail
  refine HEQ.out.mono ?_
  rintro e w9 ⟨rfl, hb9⟩
  have HB9 := Hid.mk (bl2 HB9.out hb9)
  have HSS := Hid.mk (sameSender_true (some ⟨g2, 0, none⟩) (some x) n n c2 cap l (AT : Int) (N2 : Int) (left - 1) false w9 (isBytes_below HF2.out hb9) (isBytes_below HDW.out hb9))
  unfold sdV at HSS
  obtain ⟨x0, x1, x2, x3, x4⟩ := (HY9.out.kept hb9).cells
  obtain ⟨u0, u1, u2, u3, u4⟩ := (HW9.out.kept hb9).cells
  clear hb9
  go_wp2_with fail
  refine HSS.out.mono ?_
  rintro e w10 ⟨rfl, hb10⟩
  have HB10 := Hid.mk (bl2 HB9.out hb10)
  clear hb10
  go_wp2_with fail
  go_ret
  exact ⟨by first | rfl | simp, HB10.out⟩
end Bw
end Go.Proofs.Ytgjnfmbmndnihaa
