/- The law PartGet: a next part amid a message. -/
import Derived.Test.YtljigcmhkjbhjaaPtCg
import Derived.Test.YtljigcmhkjbhjaaPtConc
import Derived.Test.YtljigcmhkjbhjaaPtLed
import Derived.Deep.RegionHeld3
namespace Go.Proofs.Ytljigcmhkjbhjaa
open Go.ChangeShapes Go.WideShapes Go.ChangeAt Go.RowKit
namespace Bw
open Bm
set_option linter.unusedVariables false
theorem isBytes_pos1 {w : World} {o : Option Addr} {n c : Nat} {l : List UInt8} (h : IsBytes w o n c l) {g : Nat} (hg : 0 < n → ∀ x, o = some x → x.block ≠ g) (i : Nat) (v : Value) : IsBytes (w.setCell ⟨g, i, none⟩ v) o n c l := by
  rcases Nat.eq_zero_or_pos n with h0 | h0
  · exact isBytes_none h h0
  · exact isBytes_set' h (hg h0) _ _
set_option maxHeartbeats 8000000 in
set_option maxRecDepth 100000 in
theorem pget_free (wt : Nat) (x : Addr) (n cap q : Nat) (left : Int) (y : Addr) (m mc : Nat) (dt p : List UInt8) (w : World) (hG : IsBytes w (some x) n cap dt) (hP : IsBytes w (some y) m mc p) (hX : getX (wt : Int) (q : Int) 0 left dt p = ⟨(wt : Int), ((q + 1) % 16 : Nat), 0, left, dt ++ p.drop 1, [], [], 0⟩) (hE : gtE n (wt : Int) (q : Int) 0 left = 0) (c0 : Nat) (hc0 : c0 < 256) (hm1 : 1 ≤ m) (hm8 : m ≤ 8) (hy : w.cell? y = some (.int .u8 (c0 : Int))) (hk : 32 ≤ c0 ∧ c0 < 48) (hq : q = c0 - 32) (hwt : 8 ≤ wt) (hf : m = 1 + min (wt - n) 7) (hwh : n + (m - 1) ≠ wt) :
    Calls Try.prog 5 #[gtV (wt : Int) (some x) n cap (q : Int) 0 left, .slice (some y) m mc] w fun e w' => e = .returned (.bool true) ∧ Below w.heap.size w w' := by
  have hB0 := awG w (gtC (wt : Int) (some x) n cap (q : Int) 0 left)
  have HGT := Hid.mk (get_any (wt : Int) (some x) n cap (q : Int) 0 left (some y) m mc dt p _ (isBytes_below hG hB0) (isBytes_below hP hB0))
  rw [hX] at HGT
  have HCL := Hid.mk (fun W => lcheckGetter_any (some x) n cap (wt : Int) (q : Int) 0 left W (Nat.le_trans hG.2.1 hG.2.2.1))
  have HCG := Hid.mk (fun W => checkGetter_any (some x) n cap (wt : Int) (q : Int) 0 left W (Nat.le_trans hG.2.1 hG.2.2.1))
  have hPT := fun W => parted_any W
  have HR := Hid.mk (Row5.new w 44 (.int .i64 (wt : Int)) (.slice (some x) n cap) (.int .i64 (q : Int)) (.int .i64 0) (.int .i64 left))
  have HB := Hid.mk hB0
  have HGG := Hid.mk hG
  have HPP := Hid.mk hP
  have hml : (m : Int) ≤ 9223372036854775807 := by have := hP.2.1; have := hP.2.2.1; unfold maxLen at this; omega
  rw [hE] at HCL HCG
  have hbl := (gtE_ok hE).1.2.1
  have hm0 : ((m : Int) == 0) = false := by simp; omega
  have hm8' : ¬ ((8 : Int) < (m : Int)) := by omega
  have hm8i : (m : Int) ≤ 8 := by omega
  have hmp : 0 < m := by omega
  have hmpi : (0 : Int) < (m : Int) := by omega
  have hc0i : (c0 : Int) ≤ 255 := by omega
  have HY0 := Hid.mk hy
  have q1 : ¬ ((c0 : Int) < 16) := by omega
  have q2 : ¬ ((c0 : Int) < 32) := by omega
  have q3 : (c0 : Int) < 48 := by omega
  have hqs : (c0 : Int) - 32 = (q : Int) := by omega
  have hqw : IntKind.u8.wrap ((c0 : Int) - 32) = (q : Int) := by rw [hqs, IntKind.wrap_u8]; omega
  have hq15 : (q : Int) ≤ 15 := by omega
  have hw0 : ((wt : Int) == 0) = false := by simp; omega
  obtain ⟨h8, hnw, hbt, hnum, hlb⟩ := gtF_more (gtE_ok hE).2 (by omega)
  have hw3 := (gtE_ok hE).1.1
  obtain ⟨d, hd⟩ : ∃ d, d = wt - n := ⟨_, rfl⟩
  have hds : (wt : Int) - (n : Int) = (d : Int) := by omega
  have hd3 : (d : Int) ≤ 300 := by omega
  obtain ⟨mn, hmn⟩ : ∃ mn, mn = min d 7 := ⟨_, rfl⟩
  have hmin : (if (d : Int) < (7 : Int) then (d : Int) else (7 : Int)) = (mn : Int) := by split <;> omega
  have hmin2 : min (7 : Int) (d : Int) = (mn : Int) := by omega
  have hmn7 : (mn : Int) ≤ 7 := by omega
  have hwti : (wt : Int) ≤ 300 := by omega
  have hni : (n : Int) ≤ 300 := by omega
  have hmc : m ≤ mc := hP.2.1
  have hmcn : ¬ mc = 1 := by omega
  have hmci : (1 : Int) < (mc : Int) := by omega
  have hm1i : (1 : Int) ≤ (m : Int) := by omega
  have hcut : IsBytes w (some ⟨y.block, y.off + 1, none⟩) (m - 1) (mc - 1) (p.drop 1) := by
    have h1 := isBytes_cut hP 1 m (by omega) (Nat.le_refl _)
    rw [List.take_of_length_le (by rw [List.length_drop]; have := hP.1; omega), add1P] at h1
    exact h1
  have HCUT := Hid.mk hcut
  obtain ⟨NS, hNS⟩ : ∃ NS, NS = n + m := ⟨_, rfl⟩
  have hns : (n : Int) + (m : Int) = (NS : Int) := by omega
  obtain ⟨T, hT⟩ : ∃ T, T = n + (m - 1) := ⟨_, rfl⟩
  have hts : (NS : Int) - 1 = (T : Int) := by omega
  have hNSb : (NS : Int) ≤ 400 := by omega
  have HT := Hid.mk hT
  have h6n : 6 ≤ n := by unfold btw at hbt; simp at hbt; exact hbt.1
  have HCO := Hid.mk (fun g W (hW : Below w.heap.size w W) h0 h1 => concatB g x ⟨y.block, y.off + 1, none⟩ n cap (m - 1) (mc - 1) dt (p.drop 1) W h0 h1 (isBytes_below hG hW) (isBytes_below hcut hW) (by omega) (by omega) (by omega) (by omega))
  rw [← hT] at HCO
  have q9 : ((m : Int) != 1 + (mn : Int)) = false := by simp; omega
  have q10 : ((T : Int) == (wt : Int)) = false := by simp; omega
  obtain ⟨N2, hN2⟩ : ∃ N2, N2 = (q + 1) % 16 := ⟨_, rfl⟩
  rw [← hN2] at HGT
  have hr0 : ((q : Int) + 1).tmod 16 = (N2 : Int) := by rw [Int.tmod_eq_emod_of_nonneg (by omega)]; omega
  have hrw : IntKind.i64.wrap (((q : Int) + 1).tmod 16) = (N2 : Int) := by rw [hr0, IntKind.wrap_i64]; omega
  have hN2b : (N2 : Int) ≤ 15 := by omega
  generalize dt ++ p.drop 1 = DT at *
  generalize p.drop 1 = PD at *
  clear hwh hN2
  clear hk hq hd hmn h8 hnw hbt hnum hlb hw3 hcut hNS hT hwt hf hbl
  clear hG hP hE hy hm8 hm1 hc0
  unfold gtC at HB HGT
  unfold gtV at HGT HCL HCG ⊢
  clear hB0 hX
  go_enter Try.func5, Try.ntmps5
  go_wp2_with fail
  refine HGT.out.mono ?_
  rintro e w1 ⟨o1, n1, e1, o2, n2, e2, o3, n3, e3, rfl, hf1, hf2, hf3, -, hb1⟩
  unfold gtV
  skip
  simp only at *
  have hba := awG w1 (.cells #[.int .i64 (wt : Int), .slice o1 n1 e1, .int .i64 (N2 : Int), .int .i64 0, .int .i64 left] 44)
  have hbb := bl2 hb1 hba
  have HB1 := Hid.mk (bl2 HB.out hbb)
  have HR1 := Hid.mk (HR.out.kept hbb)
  have HX1 := Hid.mk (Row5.new w1 44 (.int .i64 (wt : Int)) (.slice o1 n1 e1) (.int .i64 (N2 : Int)) (.int .i64 0) (.int .i64 left))
  have HF1 := Hid.mk (isBytes_below hf1.1 hba)
  have HF2 := Hid.mk (isBytes_below hf2.1 hba)
  have HF3 := Hid.mk (isBytes_below hf3.1 hba)
  obtain ⟨a0, a1, a2, a3, a4⟩ := HR1.out.cells
  clear hf1 hf2 hf3 hb1 hba hbb HB HR HGT
  go_wp2_with fail
  generalize w1.alloc (.cells #[.int .i64 (wt : Int), .slice o1 n1 e1, .int .i64 (N2 : Int), .int .i64 0, .int .i64 left] 44) = W1 at *
  generalize w1.heap.size = s1 at *
  refine (HCL.out _).mono ?_
  rintro e w2 ⟨rfl, hb2⟩
  have HB2 := Hid.mk (bl2 HB1.out hb2)
  have hb2' := hb2
  clear HCL a0 a1 a2 a3 a4
  go_wp2_with fail
  refine (hPT _).mono ?_
  rintro e w3 ⟨rfl, hb3⟩
  have hb3' := bl2 hb2' hb3
  have HB3 := Hid.mk (bl2 HB1.out hb3')
  obtain ⟨a0, a1, a2, a3, a4⟩ := (HR1.out.kept hb3').cells
  clear hb2 hb2' hb3 HB2
  go_wp2_with fail
  refine (HCG.out _).mono ?_
  rintro e w4 ⟨rfl, hb4⟩
  have hb4' := bl2 hb3' hb4
  have HR4 := Hid.mk (HR1.out.kept hb4')
  have HB4 := Hid.mk (bl2 HB1.out hb4')
  clear a0 a1 a2 a3 a4 hb4 hb3' HB3
  have hq5 := awG w4 (.cells #[.int .i64 0, .slice none 0 0, .int .i64 0, .int .i64 0, .int .i64 0] 44)
  have hq6 := awG (w4.alloc (.cells #[.int .i64 0, .slice none 0 0, .int .i64 0, .int .i64 0, .int .i64 0] 44)) (.cells #[.int .u8 48, .int .u8 0, .int .u8 0] 5)
  have hq7 := bl2 hq5 hq6
  have hq8 := bl2 hb4' hq7
  have HB5 := Hid.mk (bl2 HB4.out hq7)
  have HR5 := Hid.mk (HR4.out.kept hq7)
  have HX5 := Hid.mk (HX1.out.kept hq8)
  have HW5 := Hid.mk ((Row5.new w4 44 (.int .i64 0) (.slice none 0 0) (.int .i64 0) (.int .i64 0) (.int .i64 0)).kept hq6)
  have HE1 := Hid.mk (isBytes_below HF1.out hq8)
  have HE2 := Hid.mk (isBytes_below HF2.out hq8)
  have HE3 := Hid.mk (isBytes_below HF3.out hq8)
  have HB4S : Hid (w.heap.size < w4.heap.size) := Hid.mk (by have := HR4.out.lt; omega)
  have HXS : Hid (s1 < w4.heap.size) := Hid.mk (HX1.out.kept hb4').lt
  have HL1 : Hid (∀ x, o1 = some x → 0 < n1 → x.block < w4.heap.size) := Hid.mk (fun x hx h0 => by subst hx; have h1 := isBytes_lt HF1.out h0; have := hb4'.size; omega)
  have HL2 : Hid (∀ x, o2 = some x → 0 < n2 → x.block < w4.heap.size) := Hid.mk (fun x hx h0 => by subst hx; have h1 := isBytes_lt HF2.out h0; have := hb4'.size; omega)
  have HL3 : Hid (∀ x, o3 = some x → 0 < n3 → x.block < w4.heap.size) := Hid.mk (fun x hx h0 => by subst hx; have h1 := isBytes_lt HF3.out h0; have := hb4'.size; omega)
  have HFL : Hid ((w4.alloc (.cells #[.int .i64 0, .slice none 0 0, .int .i64 0, .int .i64 0, .int .i64 0] 44)).heap.size = w4.heap.size + 1) := Hid.mk (by simp)
  obtain ⟨-, -, -, i3, -⟩ := HR4.out.cells
  obtain ⟨-, -, -, j3, -⟩ := (HR4.out.kept hq5).cells
  obtain ⟨k0, k1, k2, k3, k4⟩ := HR5.out.cells
  clear hb4' hq5 hq6 hq7 hq8 HR1 HX1 HF1 HF2 HF3 HB1 HB4 HR4 HCG
  have d0 := cell_kept HB5.out HY0.out
  go_wp2_with fail
  generalize ((w4.alloc (.cells #[.int .i64 0, .slice none 0 0, .int .i64 0, .int .i64 0, .int .i64 0] 44)).alloc (.cells #[.int .u8 48, .int .u8 0, .int .u8 0] 5)) = W5 at *
  generalize w4.heap.size = s4 at *
  go_quiet (fail)
  have hbq : Below W5.heap.size W5 (W5.drewN nq) := drP (Below.refl _ _) nq
  have HB5 := Hid.mk (bl2 HB5.out hbq)
  have HR5 := Hid.mk (HR5.out.kept hbq)
  have HX5 := Hid.mk (HX5.out.kept hbq)
  have HW5 := Hid.mk (HW5.out.kept hbq)
  have HE1 := Hid.mk (isBytes_below HE1.out hbq)
  have HE2 := Hid.mk (isBytes_below HE2.out hbq)
  have HE3 := Hid.mk (isBytes_below HE3.out hbq)
  clear d0 k0 k1 k2 k3 k4 i3 j3
  generalize W5.drewN nq = W6 at *
  have d0 := cell_kept HB5.out HY0.out
  obtain ⟨k0, k1, k2, k3, k4⟩ := HR5.out.cells
  have i3 := k3
  have j3 := k3
  have hne4 : w.heap.size ≠ s4 := by have := HB4S.out; omega
  have hle4 : w.heap.size ≤ s4 := by have := HB4S.out; omega
  have hne1 : s1 ≠ s4 := by have := HXS.out; omega
  obtain ⟨⟨z0, z1, z2, z3, z4⟩, ⟨y0, y1, y2, y3, y4⟩, ⟨p1, r1⟩, ⟨p2, r2⟩, ⟨p3, r3⟩, ⟨p4, r4⟩, hSX⟩ := HW5.out.ready (.int .i64 (wt : Int)) (.slice (some x) n cap) (.int .i64 (q : Int)) (.int .i64 0) (.int .i64 left)
  have HW5 := Hid.mk hSX
  have HB5 := Hid.mk (set5_below HB5.out hle4 (.int .i64 (wt : Int)) (.slice (some x) n cap) (.int .i64 (q : Int)) (.int .i64 0) (.int .i64 left))
  have HR5 := Hid.mk (HR5.out.far5 hne4 (.int .i64 (wt : Int)) (.slice (some x) n cap) (.int .i64 (q : Int)) (.int .i64 0) (.int .i64 left))
  have HX5 := Hid.mk (HX5.out.far5 hne1 (.int .i64 (wt : Int)) (.slice (some x) n cap) (.int .i64 (q : Int)) (.int .i64 0) (.int .i64 left))
  have HE1 := Hid.mk (isBytes_pos5 (g := s4) HE1.out (fun h0 x hx => by have := HL1.out x hx h0; omega) (.int .i64 (wt : Int)) (.slice (some x) n cap) (.int .i64 (q : Int)) (.int .i64 0) (.int .i64 left))
  have HE2 := Hid.mk (isBytes_pos5 (g := s4) HE2.out (fun h0 x hx => by have := HL2.out x hx h0; omega) (.int .i64 (wt : Int)) (.slice (some x) n cap) (.int .i64 (q : Int)) (.int .i64 0) (.int .i64 left))
  have HE3 := Hid.mk (isBytes_pos5 (g := s4) HE3.out (fun h0 x hx => by have := HL3.out x hx h0; omega) (.int .i64 (wt : Int)) (.slice (some x) n cap) (.int .i64 (q : Int)) (.int .i64 0) (.int .i64 left))
  unfold set5 at HW5 HB5 HE1 HE2 HE3
  clear hSX
  go_wp2_with fail
  generalize (((((W6.setCell ⟨s4, 0, none⟩ (.int .i64 (wt : Int))).setCell ⟨s4, 1, none⟩ (.slice (some x) n cap)).setCell ⟨s4, 2, none⟩ (.int .i64 (q : Int))).setCell ⟨s4, 3, none⟩ (.int .i64 0)).setCell ⟨s4, 4, none⟩ (.int .i64 left)) = W7 at *
  clear z0 z1 z2 z3 z4 y0 y1 y2 y3 y4 p1 r1 p2 r2 p3 r3 p4 r4 k0 k1 k2 k3 k4 i3 j3 d0
  have HK : Hid (∀ W : World, Below W7.heap.size W7 W → W.cell? ⟨w.heap.size, 1, none⟩ = some (.slice (some x) n cap)) := Hid.mk (fun W hb => (HR5.out.kept hb).cells.2.1)
  have hd2 := bl2 (awG W7 (.cells #[.slice (some x) n cap, .slice (some ⟨y.block, y.off + 1, none⟩) (m - 1) (mc - 1)] 22)) (dwG (W7.alloc (.cells #[.slice (some x) n cap, .slice (some ⟨y.block, y.off + 1, none⟩) (m - 1) (mc - 1)] 22)))
  have HD2 := Hid.mk hd2
  have HCW := Hid.mk (HCO.out W7.heap.size (W7.alloc (.cells #[.slice (some x) n cap, .slice (some ⟨y.block, y.off + 1, none⟩) (m - 1) (mc - 1)] 22)).drew (bl2 HB5.out hd2) (cell_kept (dwG _) (cell_of_row _ _ 0 _ _ _ (heap_alloc_new W7 (.cells #[.slice (some x) n cap, .slice (some ⟨y.block, y.off + 1, none⟩) (m - 1) (mc - 1)] 22)))) (cell_kept (dwG _) (cell_of_row _ _ 1 _ _ _ (heap_alloc_new W7 (.cells #[.slice (some x) n cap, .slice (some ⟨y.block, y.off + 1, none⟩) (m - 1) (mc - 1)] 22)))))
  clear hd2
  go_region_held3 (fun W => W.cell? ⟨w.heap.size, 1, none⟩ = some (.slice (some x) n cap)) (with_reducible first | exact HK.out _ (dwG _) | exact HK.out _ HD2.out | exact HK.out _ HB7.out | exact ((HR5.out.kept HB7.out).far hne4 1 _).cells.2.1) (first
    | (go_at_call 24; with_reducible refine HCW.out.mono ?_; rintro e w8 ⟨g7, c7, rfl, hg7, hY7, hb7⟩
       have HB7 := Hid.mk (bl2 HD2.out hb7)
       have HY7 := Hid.mk hY7
       have HG7 := Hid.mk (Nat.le_trans HD2.out.size hg7)
       have e1' := (HW5.out.kept HB7.out).cells.2.1
       have f1' := (HW5.out.kept HB7.out).frozen 1
       clear hb7 hY7 hg7))
  have hg8 : s4 < g7 := by have := HW5.out.lt; have := HG7.out; omega
  have HB5 := Hid.mk (bl2 HB5.out HB7.out)
  have HR5 := Hid.mk (HR5.out.kept HB7.out)
  have HX5 := Hid.mk (HX5.out.kept HB7.out)
  have HW5 := Hid.mk (HW5.out.kept HB7.out)
  have HE1 := Hid.mk (isBytes_below HE1.out HB7.out)
  have HE2 := Hid.mk (isBytes_below HE2.out HB7.out)
  have HE3 := Hid.mk (isBytes_below HE3.out HB7.out)
  have HB5 := Hid.mk (HB5.out.setCell (p := ⟨s4, 1, none⟩) hle4 (.slice (some ⟨g7, 0, none⟩) T c7))
  have HR5 := Hid.mk (HR5.out.far hne4 1 (.slice (some ⟨g7, 0, none⟩) T c7))
  have HX5 := Hid.mk (HX5.out.far hne1 1 (.slice (some ⟨g7, 0, none⟩) T c7))
  have HW5 := Hid.mk (HW5.out.set (.slice (some ⟨g7, 0, none⟩) T c7)).1.2.1
  have HE1 := Hid.mk (isBytes_pos1 (g := s4) HE1.out (fun h0 x hx => by have := HL1.out x hx h0; omega) 1 (.slice (some ⟨g7, 0, none⟩) T c7))
  have HE2 := Hid.mk (isBytes_pos1 (g := s4) HE2.out (fun h0 x hx => by have := HL2.out x hx h0; omega) 1 (.slice (some ⟨g7, 0, none⟩) T c7))
  have HE3 := Hid.mk (isBytes_pos1 (g := s4) HE3.out (fun h0 x hx => by have := HL3.out x hx h0; omega) 1 (.slice (some ⟨g7, 0, none⟩) T c7))
  have HY7 := Hid.mk (isBytes_set HY7.out (show g7 ≠ s4 by omega) 1 (.slice (some ⟨g7, 0, none⟩) T c7))
  clear e1' f1'
  generalize w8.setCell ⟨s4, 1, none⟩ (.slice (some ⟨g7, 0, none⟩) T c7) = W9 at *
  obtain ⟨k0, k1, k2, k3, k4⟩ := HR5.out.cells
  have c2 := HW5.out.cells.2.2.1
  have f2 := HW5.out.frozen 2
  have HB5 := Hid.mk (HB5.out.setCell (p := ⟨s4, 2, none⟩) hle4 (.int .i64 (N2 : Int)))
  have HR5 := Hid.mk (HR5.out.far hne4 2 (.int .i64 (N2 : Int)))
  have HX5 := Hid.mk (HX5.out.far hne1 2 (.int .i64 (N2 : Int)))
  have HW5 := Hid.mk (HW5.out.set (.int .i64 (N2 : Int))).1.2.2
  have HE1 := Hid.mk (isBytes_pos1 (g := s4) HE1.out (fun h0 x hx => by have := HL1.out x hx h0; omega) 2 (.int .i64 (N2 : Int)))
  have HE2 := Hid.mk (isBytes_pos1 (g := s4) HE2.out (fun h0 x hx => by have := HL2.out x hx h0; omega) 2 (.int .i64 (N2 : Int)))
  have HE3 := Hid.mk (isBytes_pos1 (g := s4) HE3.out (fun h0 x hx => by have := HL3.out x hx h0; omega) 2 (.int .i64 (N2 : Int)))
  have HY7 := Hid.mk (isBytes_set HY7.out (show g7 ≠ s4 by omega) 2 (.int .i64 (N2 : Int)))
  obtain ⟨m0, m1, m2, m3, m4⟩ := HR5.out.cells
  obtain ⟨v0, v1, v2, v3, v4⟩ := HW5.out.cells
  have HNL : Hid (IsBytes (W9.setCell ⟨s4, 2, none⟩ (.int .i64 (N2 : Int))) none 0 0 []) := Hid.mk ⟨rfl, Nat.le_refl _, Nat.zero_le _, fun _ => rfl, fun y hy => by cases hy⟩
  have HSS := Hid.mk (sameGetter_true o1 (some ⟨g7, 0, none⟩) n1 T e1 c7 DT (wt : Int) (N2 : Int) 0 left _ HE1.out HY7.out)
  have HSB := Hid.mk HNL.out
  have HAB := Hid.mk HNL.out
  unfold gtV at HSS
  obtain ⟨x0, x1, x2, x3, x4⟩ := HX5.out.cells
  go_wp2_with fail
  refine HSS.out.mono ?_
  rintro e w7 ⟨rfl, hb7⟩
  have HB7 := Hid.mk (bl2 HB5.out hb7)
  have HQ2 := Hid.mk (equal_is (isBytes_below HE2.out hb7) (isBytes_below HSB.out hb7))
  have HA7 := Hid.mk (isBytes_below HAB.out hb7)
  have HE7 := Hid.mk (isBytes_below HE3.out hb7)
  clear hb7 HSS x0 x1 x2 x3 x4 HB5
  go_wp2_with fail
  refine HQ2.out.mono ?_
  rintro e w8 ⟨rfl, hb8⟩
  have HB8 := Hid.mk (bl2 HB7.out hb8)
  have HQ3 := Hid.mk (equal_is (isBytes_below HE7.out hb8) (isBytes_below HA7.out hb8))
  clear hb8 HB7 HQ2 HA7 HE7
  go_wp2_with fail
  refine HQ3.out.mono ?_
  rintro e w9 ⟨rfl, hb9⟩
  have HB9 := Hid.mk (bl2 HB8.out hb9)
  clear hb9 HB8 HQ3
  go_wp2_with fail
  go_ret
  exact ⟨by first | rfl | simp, HB9.out⟩
set_option maxHeartbeats 8000000 in
set_option maxRecDepth 100000 in
theorem pget_left (wt : Nat) (x : Addr) (n cap q : Nat) (block left : Int) (y : Addr) (m mc : Nat) (dt p : List UInt8) (w : World) (hG : IsBytes w (some x) n cap dt) (hP : IsBytes w (some y) m mc p) (hX : getX (wt : Int) (q : Int) block left dt p = ⟨(wt : Int), ((q + 1) % 16 : Nat), block, (left - 1), dt ++ p.drop 1, [], [], 0⟩) (hE : gtE n (wt : Int) (q : Int) block left = 0) (c0 : Nat) (hc0 : c0 < 256) (hm1 : 1 ≤ m) (hm8 : m ≤ 8) (hy : w.cell? y = some (.int .u8 (c0 : Int))) (hk : 32 ≤ c0 ∧ c0 < 48) (hq : q = c0 - 32) (hwt : 8 ≤ wt) (hf : m = 1 + min (wt - n) 7) (hb1 : block ≠ 0) (hl2 : 2 ≤ left) (hwh : n + (m - 1) ≠ wt) :
    Calls Try.prog 5 #[gtV (wt : Int) (some x) n cap (q : Int) block left, .slice (some y) m mc] w fun e w' => e = .returned (.bool true) ∧ Below w.heap.size w w' := by
  have hB0 := awG w (gtC (wt : Int) (some x) n cap (q : Int) block left)
  have HGT := Hid.mk (get_any (wt : Int) (some x) n cap (q : Int) block left (some y) m mc dt p _ (isBytes_below hG hB0) (isBytes_below hP hB0))
  rw [hX] at HGT
  have HCL := Hid.mk (fun W => lcheckGetter_any (some x) n cap (wt : Int) (q : Int) block left W (Nat.le_trans hG.2.1 hG.2.2.1))
  have HCG := Hid.mk (fun W => checkGetter_any (some x) n cap (wt : Int) (q : Int) block left W (Nat.le_trans hG.2.1 hG.2.2.1))
  have hPT := fun W => parted_any W
  have HR := Hid.mk (Row5.new w 44 (.int .i64 (wt : Int)) (.slice (some x) n cap) (.int .i64 (q : Int)) (.int .i64 block) (.int .i64 left))
  have HB := Hid.mk hB0
  have HGG := Hid.mk hG
  have HPP := Hid.mk hP
  have hml : (m : Int) ≤ 9223372036854775807 := by have := hP.2.1; have := hP.2.2.1; unfold maxLen at this; omega
  rw [hE] at HCL HCG
  have hbl := (gtE_ok hE).1.2.1
  have hm0 : ((m : Int) == 0) = false := by simp; omega
  have hm8' : ¬ ((8 : Int) < (m : Int)) := by omega
  have hm8i : (m : Int) ≤ 8 := by omega
  have hmp : 0 < m := by omega
  have hmpi : (0 : Int) < (m : Int) := by omega
  have hc0i : (c0 : Int) ≤ 255 := by omega
  have HY0 := Hid.mk hy
  have q1 : ¬ ((c0 : Int) < 16) := by omega
  have q2 : ¬ ((c0 : Int) < 32) := by omega
  have q3 : (c0 : Int) < 48 := by omega
  have hqs : (c0 : Int) - 32 = (q : Int) := by omega
  have hqw : IntKind.u8.wrap ((c0 : Int) - 32) = (q : Int) := by rw [hqs, IntKind.wrap_u8]; omega
  have hq15 : (q : Int) ≤ 15 := by omega
  have hw0 : ((wt : Int) == 0) = false := by simp; omega
  obtain ⟨h8, hnw, hbt, hnum, hlb⟩ := gtF_more (gtE_ok hE).2 (by omega)
  have hw3 := (gtE_ok hE).1.1
  obtain ⟨d, hd⟩ : ∃ d, d = wt - n := ⟨_, rfl⟩
  have hds : (wt : Int) - (n : Int) = (d : Int) := by omega
  have hd3 : (d : Int) ≤ 300 := by omega
  obtain ⟨mn, hmn⟩ : ∃ mn, mn = min d 7 := ⟨_, rfl⟩
  have hmin : (if (d : Int) < (7 : Int) then (d : Int) else (7 : Int)) = (mn : Int) := by split <;> omega
  have hmin2 : min (7 : Int) (d : Int) = (mn : Int) := by omega
  have hmn7 : (mn : Int) ≤ 7 := by omega
  have hwti : (wt : Int) ≤ 300 := by omega
  have hni : (n : Int) ≤ 300 := by omega
  have hmc : m ≤ mc := hP.2.1
  have hmcn : ¬ mc = 1 := by omega
  have hmci : (1 : Int) < (mc : Int) := by omega
  have hm1i : (1 : Int) ≤ (m : Int) := by omega
  have hcut : IsBytes w (some ⟨y.block, y.off + 1, none⟩) (m - 1) (mc - 1) (p.drop 1) := by
    have h1 := isBytes_cut hP 1 m (by omega) (Nat.le_refl _)
    rw [List.take_of_length_le (by rw [List.length_drop]; have := hP.1; omega), add1P] at h1
    exact h1
  have HCUT := Hid.mk hcut
  obtain ⟨NS, hNS⟩ : ∃ NS, NS = n + m := ⟨_, rfl⟩
  have hns : (n : Int) + (m : Int) = (NS : Int) := by omega
  obtain ⟨T, hT⟩ : ∃ T, T = n + (m - 1) := ⟨_, rfl⟩
  have hts : (NS : Int) - 1 = (T : Int) := by omega
  have hNSb : (NS : Int) ≤ 400 := by omega
  have HT := Hid.mk hT
  have h6n : 6 ≤ n := by unfold btw at hbt; simp at hbt; exact hbt.1
  have HCO := Hid.mk (fun g W (hW : Below w.heap.size w W) h0 h1 => concatB g x ⟨y.block, y.off + 1, none⟩ n cap (m - 1) (mc - 1) dt (p.drop 1) W h0 h1 (isBytes_below hG hW) (isBytes_below hcut hW) (by omega) (by omega) (by omega) (by omega))
  rw [← hT] at HCO
  have q9 : ((m : Int) != 1 + (mn : Int)) = false := by simp; omega
  have q10 : ((T : Int) == (wt : Int)) = false := by simp; omega
  obtain ⟨N2, hN2⟩ : ∃ N2, N2 = (q + 1) % 16 := ⟨_, rfl⟩
  rw [← hN2] at HGT
  have hr0 : ((q : Int) + 1).tmod 16 = (N2 : Int) := by rw [Int.tmod_eq_emod_of_nonneg (by omega)]; omega
  have hrw : IntKind.i64.wrap (((q : Int) + 1).tmod 16) = (N2 : Int) := by rw [hr0, IntKind.wrap_i64]; omega
  have hN2b : (N2 : Int) ≤ 15 := by omega
  have hb0 : (0 : Int) < block := by omega
  have hl0 : (left - 1 == 0) = false := by simp; omega
  have hlb1 : left ≤ 255 := by have := (gtE_ok hE).1.2.2.1; omega
  generalize dt ++ p.drop 1 = DT at *
  generalize p.drop 1 = PD at *
  clear hwh hN2
  clear hk hq hd hmn h8 hnw hbt hnum hlb hw3 hcut hNS hT hwt hf hbl
  clear hG hP hE hy hm8 hm1 hc0
  unfold gtC at HB HGT
  unfold gtV at HGT HCL HCG ⊢
  clear hB0 hX
  go_enter Try.func5, Try.ntmps5
  go_wp2_with fail
  refine HGT.out.mono ?_
  rintro e w1 ⟨o1, n1, e1, o2, n2, e2, o3, n3, e3, rfl, hf1, hf2, hf3, -, hb1⟩
  unfold gtV
  skip
  simp only at *
  have hba := awG w1 (.cells #[.int .i64 (wt : Int), .slice o1 n1 e1, .int .i64 (N2 : Int), .int .i64 block, .int .i64 (left - 1)] 44)
  have hbb := bl2 hb1 hba
  have HB1 := Hid.mk (bl2 HB.out hbb)
  have HR1 := Hid.mk (HR.out.kept hbb)
  have HX1 := Hid.mk (Row5.new w1 44 (.int .i64 (wt : Int)) (.slice o1 n1 e1) (.int .i64 (N2 : Int)) (.int .i64 block) (.int .i64 (left - 1)))
  have HF1 := Hid.mk (isBytes_below hf1.1 hba)
  have HF2 := Hid.mk (isBytes_below hf2.1 hba)
  have HF3 := Hid.mk (isBytes_below hf3.1 hba)
  obtain ⟨a0, a1, a2, a3, a4⟩ := HR1.out.cells
  clear hf1 hf2 hf3 hb1 hba hbb HB HR HGT
  go_wp2_with fail
  generalize w1.alloc (.cells #[.int .i64 (wt : Int), .slice o1 n1 e1, .int .i64 (N2 : Int), .int .i64 block, .int .i64 (left - 1)] 44) = W1 at *
  generalize w1.heap.size = s1 at *
  refine (HCL.out _).mono ?_
  rintro e w2 ⟨rfl, hb2⟩
  have HB2 := Hid.mk (bl2 HB1.out hb2)
  have hb2' := hb2
  clear HCL a0 a1 a2 a3 a4
  go_wp2_with fail
  refine (hPT _).mono ?_
  rintro e w3 ⟨rfl, hb3⟩
  have hb3' := bl2 hb2' hb3
  have HB3 := Hid.mk (bl2 HB1.out hb3')
  obtain ⟨a0, a1, a2, a3, a4⟩ := (HR1.out.kept hb3').cells
  clear hb2 hb2' hb3 HB2
  go_wp2_with fail
  refine (HCG.out _).mono ?_
  rintro e w4 ⟨rfl, hb4⟩
  have hb4' := bl2 hb3' hb4
  have HR4 := Hid.mk (HR1.out.kept hb4')
  have HB4 := Hid.mk (bl2 HB1.out hb4')
  clear a0 a1 a2 a3 a4 hb4 hb3' HB3
  have hq5 := awG w4 (.cells #[.int .i64 0, .slice none 0 0, .int .i64 0, .int .i64 block, .int .i64 0] 44)
  have hq6 := awG (w4.alloc (.cells #[.int .i64 0, .slice none 0 0, .int .i64 0, .int .i64 block, .int .i64 0] 44)) (.cells #[.int .u8 48, .int .u8 (block % 256), .int .u8 0] 5)
  have hq7 := bl2 hq5 hq6
  have hq8 := bl2 hb4' hq7
  have HB5 := Hid.mk (bl2 HB4.out hq7)
  have HR5 := Hid.mk (HR4.out.kept hq7)
  have HX5 := Hid.mk (HX1.out.kept hq8)
  have HW5 := Hid.mk ((Row5.new w4 44 (.int .i64 0) (.slice none 0 0) (.int .i64 0) (.int .i64 block) (.int .i64 0)).kept hq6)
  have HE1 := Hid.mk (isBytes_below HF1.out hq8)
  have HE2 := Hid.mk (isBytes_below HF2.out hq8)
  have HE3 := Hid.mk (isBytes_below HF3.out hq8)
  have HB4S : Hid (w.heap.size < w4.heap.size) := Hid.mk (by have := HR4.out.lt; omega)
  have HXS : Hid (s1 < w4.heap.size) := Hid.mk (HX1.out.kept hb4').lt
  have HL1 : Hid (∀ x, o1 = some x → 0 < n1 → x.block < w4.heap.size) := Hid.mk (fun x hx h0 => by subst hx; have h1 := isBytes_lt HF1.out h0; have := hb4'.size; omega)
  have HL2 : Hid (∀ x, o2 = some x → 0 < n2 → x.block < w4.heap.size) := Hid.mk (fun x hx h0 => by subst hx; have h1 := isBytes_lt HF2.out h0; have := hb4'.size; omega)
  have HL3 : Hid (∀ x, o3 = some x → 0 < n3 → x.block < w4.heap.size) := Hid.mk (fun x hx h0 => by subst hx; have h1 := isBytes_lt HF3.out h0; have := hb4'.size; omega)
  have HFL : Hid ((w4.alloc (.cells #[.int .i64 0, .slice none 0 0, .int .i64 0, .int .i64 block, .int .i64 0] 44)).heap.size = w4.heap.size + 1) := Hid.mk (by simp)
  obtain ⟨-, -, -, i3, -⟩ := HR4.out.cells
  obtain ⟨-, -, -, j3, -⟩ := (HR4.out.kept hq5).cells
  obtain ⟨k0, k1, k2, k3, k4⟩ := HR5.out.cells
  clear hb4' hq5 hq6 hq7 hq8 HR1 HX1 HF1 HF2 HF3 HB1 HB4 HR4 HCG
  have d0 := cell_kept HB5.out HY0.out
  go_wp2_with fail
  generalize ((w4.alloc (.cells #[.int .i64 0, .slice none 0 0, .int .i64 0, .int .i64 block, .int .i64 0] 44)).alloc (.cells #[.int .u8 48, .int .u8 (block % 256), .int .u8 0] 5)) = W5 at *
  generalize w4.heap.size = s4 at *
  go_quiet (fail)
  have hbq : Below W5.heap.size W5 (W5.drewN nq) := drP (Below.refl _ _) nq
  have HB5 := Hid.mk (bl2 HB5.out hbq)
  have HR5 := Hid.mk (HR5.out.kept hbq)
  have HX5 := Hid.mk (HX5.out.kept hbq)
  have HW5 := Hid.mk (HW5.out.kept hbq)
  have HE1 := Hid.mk (isBytes_below HE1.out hbq)
  have HE2 := Hid.mk (isBytes_below HE2.out hbq)
  have HE3 := Hid.mk (isBytes_below HE3.out hbq)
  clear d0 k0 k1 k2 k3 k4 i3 j3
  generalize W5.drewN nq = W6 at *
  have d0 := cell_kept HB5.out HY0.out
  obtain ⟨k0, k1, k2, k3, k4⟩ := HR5.out.cells
  have i3 := k3
  have j3 := k3
  have hne4 : w.heap.size ≠ s4 := by have := HB4S.out; omega
  have hle4 : w.heap.size ≤ s4 := by have := HB4S.out; omega
  have hne1 : s1 ≠ s4 := by have := HXS.out; omega
  obtain ⟨⟨z0, z1, z2, z3, z4⟩, ⟨y0, y1, y2, y3, y4⟩, ⟨p1, r1⟩, ⟨p2, r2⟩, ⟨p3, r3⟩, ⟨p4, r4⟩, hSX⟩ := HW5.out.ready (.int .i64 (wt : Int)) (.slice (some x) n cap) (.int .i64 (q : Int)) (.int .i64 block) (.int .i64 left)
  have HW5 := Hid.mk hSX
  have HB5 := Hid.mk (set5_below HB5.out hle4 (.int .i64 (wt : Int)) (.slice (some x) n cap) (.int .i64 (q : Int)) (.int .i64 block) (.int .i64 left))
  have HR5 := Hid.mk (HR5.out.far5 hne4 (.int .i64 (wt : Int)) (.slice (some x) n cap) (.int .i64 (q : Int)) (.int .i64 block) (.int .i64 left))
  have HX5 := Hid.mk (HX5.out.far5 hne1 (.int .i64 (wt : Int)) (.slice (some x) n cap) (.int .i64 (q : Int)) (.int .i64 block) (.int .i64 left))
  have HE1 := Hid.mk (isBytes_pos5 (g := s4) HE1.out (fun h0 x hx => by have := HL1.out x hx h0; omega) (.int .i64 (wt : Int)) (.slice (some x) n cap) (.int .i64 (q : Int)) (.int .i64 block) (.int .i64 left))
  have HE2 := Hid.mk (isBytes_pos5 (g := s4) HE2.out (fun h0 x hx => by have := HL2.out x hx h0; omega) (.int .i64 (wt : Int)) (.slice (some x) n cap) (.int .i64 (q : Int)) (.int .i64 block) (.int .i64 left))
  have HE3 := Hid.mk (isBytes_pos5 (g := s4) HE3.out (fun h0 x hx => by have := HL3.out x hx h0; omega) (.int .i64 (wt : Int)) (.slice (some x) n cap) (.int .i64 (q : Int)) (.int .i64 block) (.int .i64 left))
  unfold set5 at HW5 HB5 HE1 HE2 HE3
  clear hSX
  go_wp2_with fail
  generalize (((((W6.setCell ⟨s4, 0, none⟩ (.int .i64 (wt : Int))).setCell ⟨s4, 1, none⟩ (.slice (some x) n cap)).setCell ⟨s4, 2, none⟩ (.int .i64 (q : Int))).setCell ⟨s4, 3, none⟩ (.int .i64 block)).setCell ⟨s4, 4, none⟩ (.int .i64 left)) = W7 at *
  clear z0 z1 z2 z3 z4 y0 y1 y2 y3 y4 p1 r1 p2 r2 p3 r3 p4 r4 k0 k1 k2 k3 k4 i3 j3 d0
  have HK : Hid (∀ W : World, Below W7.heap.size W7 W → W.cell? ⟨w.heap.size, 1, none⟩ = some (.slice (some x) n cap)) := Hid.mk (fun W hb => (HR5.out.kept hb).cells.2.1)
  have hd2 := bl2 (awG W7 (.cells #[.slice (some x) n cap, .slice (some ⟨y.block, y.off + 1, none⟩) (m - 1) (mc - 1)] 22)) (dwG (W7.alloc (.cells #[.slice (some x) n cap, .slice (some ⟨y.block, y.off + 1, none⟩) (m - 1) (mc - 1)] 22)))
  have HD2 := Hid.mk hd2
  have HCW := Hid.mk (HCO.out W7.heap.size (W7.alloc (.cells #[.slice (some x) n cap, .slice (some ⟨y.block, y.off + 1, none⟩) (m - 1) (mc - 1)] 22)).drew (bl2 HB5.out hd2) (cell_kept (dwG _) (cell_of_row _ _ 0 _ _ _ (heap_alloc_new W7 (.cells #[.slice (some x) n cap, .slice (some ⟨y.block, y.off + 1, none⟩) (m - 1) (mc - 1)] 22)))) (cell_kept (dwG _) (cell_of_row _ _ 1 _ _ _ (heap_alloc_new W7 (.cells #[.slice (some x) n cap, .slice (some ⟨y.block, y.off + 1, none⟩) (m - 1) (mc - 1)] 22)))))
  clear hd2
  go_region_held3 (fun W => W.cell? ⟨w.heap.size, 1, none⟩ = some (.slice (some x) n cap)) (with_reducible first | exact HK.out _ (dwG _) | exact HK.out _ HD2.out | exact HK.out _ HB7.out | exact ((HR5.out.kept HB7.out).far hne4 1 _).cells.2.1) (first
    | (go_at_call 24; with_reducible refine HCW.out.mono ?_; rintro e w8 ⟨g7, c7, rfl, hg7, hY7, hb7⟩
       have HB7 := Hid.mk (bl2 HD2.out hb7)
       have HY7 := Hid.mk hY7
       have HG7 := Hid.mk (Nat.le_trans HD2.out.size hg7)
       have e1' := (HW5.out.kept HB7.out).cells.2.1
       have f1' := (HW5.out.kept HB7.out).frozen 1
       clear hb7 hY7 hg7))
  have hg8 : s4 < g7 := by have := HW5.out.lt; have := HG7.out; omega
  have HB5 := Hid.mk (bl2 HB5.out HB7.out)
  have HR5 := Hid.mk (HR5.out.kept HB7.out)
  have HX5 := Hid.mk (HX5.out.kept HB7.out)
  have HW5 := Hid.mk (HW5.out.kept HB7.out)
  have HE1 := Hid.mk (isBytes_below HE1.out HB7.out)
  have HE2 := Hid.mk (isBytes_below HE2.out HB7.out)
  have HE3 := Hid.mk (isBytes_below HE3.out HB7.out)
  have HB5 := Hid.mk (HB5.out.setCell (p := ⟨s4, 1, none⟩) hle4 (.slice (some ⟨g7, 0, none⟩) T c7))
  have HR5 := Hid.mk (HR5.out.far hne4 1 (.slice (some ⟨g7, 0, none⟩) T c7))
  have HX5 := Hid.mk (HX5.out.far hne1 1 (.slice (some ⟨g7, 0, none⟩) T c7))
  have HW5 := Hid.mk (HW5.out.set (.slice (some ⟨g7, 0, none⟩) T c7)).1.2.1
  have HE1 := Hid.mk (isBytes_pos1 (g := s4) HE1.out (fun h0 x hx => by have := HL1.out x hx h0; omega) 1 (.slice (some ⟨g7, 0, none⟩) T c7))
  have HE2 := Hid.mk (isBytes_pos1 (g := s4) HE2.out (fun h0 x hx => by have := HL2.out x hx h0; omega) 1 (.slice (some ⟨g7, 0, none⟩) T c7))
  have HE3 := Hid.mk (isBytes_pos1 (g := s4) HE3.out (fun h0 x hx => by have := HL3.out x hx h0; omega) 1 (.slice (some ⟨g7, 0, none⟩) T c7))
  have HY7 := Hid.mk (isBytes_set HY7.out (show g7 ≠ s4 by omega) 1 (.slice (some ⟨g7, 0, none⟩) T c7))
  clear e1' f1'
  generalize w8.setCell ⟨s4, 1, none⟩ (.slice (some ⟨g7, 0, none⟩) T c7) = W9 at *
  obtain ⟨k0, k1, k2, k3, k4⟩ := HR5.out.cells
  have c2 := HW5.out.cells.2.2.1
  have f2 := HW5.out.frozen 2
  have HB5 := Hid.mk (HB5.out.setCell (p := ⟨s4, 2, none⟩) hle4 (.int .i64 (N2 : Int)))
  have HR5 := Hid.mk (HR5.out.far hne4 2 (.int .i64 (N2 : Int)))
  have HX5 := Hid.mk (HX5.out.far hne1 2 (.int .i64 (N2 : Int)))
  have HW5 := Hid.mk (HW5.out.set (.int .i64 (N2 : Int))).1.2.2
  have HE1 := Hid.mk (isBytes_pos1 (g := s4) HE1.out (fun h0 x hx => by have := HL1.out x hx h0; omega) 2 (.int .i64 (N2 : Int)))
  have HE2 := Hid.mk (isBytes_pos1 (g := s4) HE2.out (fun h0 x hx => by have := HL2.out x hx h0; omega) 2 (.int .i64 (N2 : Int)))
  have HE3 := Hid.mk (isBytes_pos1 (g := s4) HE3.out (fun h0 x hx => by have := HL3.out x hx h0; omega) 2 (.int .i64 (N2 : Int)))
  have HY7 := Hid.mk (isBytes_set HY7.out (show g7 ≠ s4 by omega) 2 (.int .i64 (N2 : Int)))
  obtain ⟨m0, m1, m2, m3, m4⟩ := HR5.out.cells
  have c4 := HW5.out.cells.2.2.2.2
  have f4 := HW5.out.frozen 4
  have HB5 := Hid.mk (HB5.out.setCell (p := ⟨s4, 4, none⟩) hle4 (.int .i64 (left - 1)))
  have HR5 := Hid.mk (HR5.out.far hne4 4 (.int .i64 (left - 1)))
  have HX5 := Hid.mk (HX5.out.far hne1 4 (.int .i64 (left - 1)))
  have HW5 := Hid.mk (HW5.out.set (.int .i64 (left - 1))).2.2
  have HE1 := Hid.mk (isBytes_pos1 (g := s4) HE1.out (fun h0 x hx => by have := HL1.out x hx h0; omega) 4 (.int .i64 (left - 1)))
  have HE2 := Hid.mk (isBytes_pos1 (g := s4) HE2.out (fun h0 x hx => by have := HL2.out x hx h0; omega) 4 (.int .i64 (left - 1)))
  have HE3 := Hid.mk (isBytes_pos1 (g := s4) HE3.out (fun h0 x hx => by have := HL3.out x hx h0; omega) 4 (.int .i64 (left - 1)))
  have HY7 := Hid.mk (isBytes_set HY7.out (show g7 ≠ s4 by omega) 4 (.int .i64 (left - 1)))
  obtain ⟨v0, v1, v2, v3, v4⟩ := HW5.out.cells
  have HNL : Hid (IsBytes ((W9.setCell ⟨s4, 2, none⟩ (.int .i64 (N2 : Int))).setCell ⟨s4, 4, none⟩ (.int .i64 (left - 1))) none 0 0 []) := Hid.mk ⟨rfl, Nat.le_refl _, Nat.zero_le _, fun _ => rfl, fun y hy => by cases hy⟩
  have HSS := Hid.mk (sameGetter_true o1 (some ⟨g7, 0, none⟩) n1 T e1 c7 DT (wt : Int) (N2 : Int) block (left - 1) _ HE1.out HY7.out)
  have HSB := Hid.mk HNL.out
  have HAB := Hid.mk HNL.out
  unfold gtV at HSS
  obtain ⟨x0, x1, x2, x3, x4⟩ := HX5.out.cells
  go_wp2_with fail
  refine HSS.out.mono ?_
  rintro e w7 ⟨rfl, hb7⟩
  have HB7 := Hid.mk (bl2 HB5.out hb7)
  have HQ2 := Hid.mk (equal_is (isBytes_below HE2.out hb7) (isBytes_below HSB.out hb7))
  have HA7 := Hid.mk (isBytes_below HAB.out hb7)
  have HE7 := Hid.mk (isBytes_below HE3.out hb7)
  clear hb7 HSS x0 x1 x2 x3 x4 HB5
  go_wp2_with fail
  refine HQ2.out.mono ?_
  rintro e w8 ⟨rfl, hb8⟩
  have HB8 := Hid.mk (bl2 HB7.out hb8)
  have HQ3 := Hid.mk (equal_is (isBytes_below HE7.out hb8) (isBytes_below HA7.out hb8))
  clear hb8 HB7 HQ2 HA7 HE7
  go_wp2_with fail
  refine HQ3.out.mono ?_
  rintro e w9 ⟨rfl, hb9⟩
  have HB9 := Hid.mk (bl2 HB8.out hb9)
  clear hb9 HB8 HQ3
  go_wp2_with fail
  go_ret
  exact ⟨by first | rfl | simp, HB9.out⟩
set_option maxHeartbeats 8000000 in
set_option maxRecDepth 100000 in
theorem pget_flow (wt : Nat) (x : Addr) (n cap q bl : Nat) (y : Addr) (m mc : Nat) (dt p : List UInt8) (w : World) (hG : IsBytes w (some x) n cap dt) (hP : IsBytes w (some y) m mc p) (hX : getX (wt : Int) (q : Int) (bl : Int) 1 dt p = ⟨(wt : Int), ((q + 1) % 16 : Nat), (bl : Int), (bl : Int), dt ++ p.drop 1, flowL bl, [], 0⟩) (hE : gtE n (wt : Int) (q : Int) (bl : Int) 1 = 0) (c0 : Nat) (hc0 : c0 < 256) (hm1 : 1 ≤ m) (hm8 : m ≤ 8) (hy : w.cell? y = some (.int .u8 (c0 : Int))) (hk : 32 ≤ c0 ∧ c0 < 48) (hq : q = c0 - 32) (hwt : 8 ≤ wt) (hf : m = 1 + min (wt - n) 7) (hb1 : 1 ≤ bl) (hwh : n + (m - 1) ≠ wt) :
    Calls Try.prog 5 #[gtV (wt : Int) (some x) n cap (q : Int) (bl : Int) 1, .slice (some y) m mc] w fun e w' => e = .returned (.bool true) ∧ Below w.heap.size w w' := by
  have hB0 := awG w (gtC (wt : Int) (some x) n cap (q : Int) (bl : Int) 1)
  have HGT := Hid.mk (get_any (wt : Int) (some x) n cap (q : Int) (bl : Int) 1 (some y) m mc dt p _ (isBytes_below hG hB0) (isBytes_below hP hB0))
  rw [hX] at HGT
  have HCL := Hid.mk (fun W => lcheckGetter_any (some x) n cap (wt : Int) (q : Int) (bl : Int) 1 W (Nat.le_trans hG.2.1 hG.2.2.1))
  have HCG := Hid.mk (fun W => checkGetter_any (some x) n cap (wt : Int) (q : Int) (bl : Int) 1 W (Nat.le_trans hG.2.1 hG.2.2.1))
  have hPT := fun W => parted_any W
  have HR := Hid.mk (Row5.new w 44 (.int .i64 (wt : Int)) (.slice (some x) n cap) (.int .i64 (q : Int)) (.int .i64 (bl : Int)) (.int .i64 1))
  have HB := Hid.mk hB0
  have HGG := Hid.mk hG
  have HPP := Hid.mk hP
  have hml : (m : Int) ≤ 9223372036854775807 := by have := hP.2.1; have := hP.2.2.1; unfold maxLen at this; omega
  rw [hE] at HCL HCG
  have hbl := (gtE_ok hE).1.2.1
  have hm0 : ((m : Int) == 0) = false := by simp; omega
  have hm8' : ¬ ((8 : Int) < (m : Int)) := by omega
  have hm8i : (m : Int) ≤ 8 := by omega
  have hmp : 0 < m := by omega
  have hmpi : (0 : Int) < (m : Int) := by omega
  have hc0i : (c0 : Int) ≤ 255 := by omega
  have HY0 := Hid.mk hy
  have q1 : ¬ ((c0 : Int) < 16) := by omega
  have q2 : ¬ ((c0 : Int) < 32) := by omega
  have q3 : (c0 : Int) < 48 := by omega
  have hqs : (c0 : Int) - 32 = (q : Int) := by omega
  have hqw : IntKind.u8.wrap ((c0 : Int) - 32) = (q : Int) := by rw [hqs, IntKind.wrap_u8]; omega
  have hq15 : (q : Int) ≤ 15 := by omega
  have hw0 : ((wt : Int) == 0) = false := by simp; omega
  obtain ⟨h8, hnw, hbt, hnum, hlb⟩ := gtF_more (gtE_ok hE).2 (by omega)
  have hw3 := (gtE_ok hE).1.1
  obtain ⟨d, hd⟩ : ∃ d, d = wt - n := ⟨_, rfl⟩
  have hds : (wt : Int) - (n : Int) = (d : Int) := by omega
  have hd3 : (d : Int) ≤ 300 := by omega
  obtain ⟨mn, hmn⟩ : ∃ mn, mn = min d 7 := ⟨_, rfl⟩
  have hmin : (if (d : Int) < (7 : Int) then (d : Int) else (7 : Int)) = (mn : Int) := by split <;> omega
  have hmin2 : min (7 : Int) (d : Int) = (mn : Int) := by omega
  have hmn7 : (mn : Int) ≤ 7 := by omega
  have hwti : (wt : Int) ≤ 300 := by omega
  have hni : (n : Int) ≤ 300 := by omega
  have hmc : m ≤ mc := hP.2.1
  have hmcn : ¬ mc = 1 := by omega
  have hmci : (1 : Int) < (mc : Int) := by omega
  have hm1i : (1 : Int) ≤ (m : Int) := by omega
  have hcut : IsBytes w (some ⟨y.block, y.off + 1, none⟩) (m - 1) (mc - 1) (p.drop 1) := by
    have h1 := isBytes_cut hP 1 m (by omega) (Nat.le_refl _)
    rw [List.take_of_length_le (by rw [List.length_drop]; have := hP.1; omega), add1P] at h1
    exact h1
  have HCUT := Hid.mk hcut
  obtain ⟨NS, hNS⟩ : ∃ NS, NS = n + m := ⟨_, rfl⟩
  have hns : (n : Int) + (m : Int) = (NS : Int) := by omega
  obtain ⟨T, hT⟩ : ∃ T, T = n + (m - 1) := ⟨_, rfl⟩
  have hts : (NS : Int) - 1 = (T : Int) := by omega
  have hNSb : (NS : Int) ≤ 400 := by omega
  have HT := Hid.mk hT
  have h6n : 6 ≤ n := by unfold btw at hbt; simp at hbt; exact hbt.1
  have HCO := Hid.mk (fun g W (hW : Below w.heap.size w W) h0 h1 => concatB g x ⟨y.block, y.off + 1, none⟩ n cap (m - 1) (mc - 1) dt (p.drop 1) W h0 h1 (isBytes_below hG hW) (isBytes_below hcut hW) (by omega) (by omega) (by omega) (by omega))
  rw [← hT] at HCO
  have q9 : ((m : Int) != 1 + (mn : Int)) = false := by simp; omega
  have q10 : ((T : Int) == (wt : Int)) = false := by simp; omega
  obtain ⟨N2, hN2⟩ : ∃ N2, N2 = (q + 1) % 16 := ⟨_, rfl⟩
  rw [← hN2] at HGT
  have hr0 : ((q : Int) + 1).tmod 16 = (N2 : Int) := by rw [Int.tmod_eq_emod_of_nonneg (by omega)]; omega
  have hrw : IntKind.i64.wrap (((q : Int) + 1).tmod 16) = (N2 : Int) := by rw [hr0, IntKind.wrap_i64]; omega
  have hN2b : (N2 : Int) ≤ 15 := by omega
  have hblb : bl ≤ 255 := by have := (gtE_ok hE).1.2.1; omega
  have hbm : (bl : Int) % 256 = (bl : Int) := by omega
  have hbli : (bl : Int) ≤ 255 := by omega
  have hb0 : (0 : Int) < (bl : Int) := by omega
  have hb0n : 0 < bl := by omega
  generalize dt ++ p.drop 1 = DT at *
  generalize p.drop 1 = PD at *
  clear hwh hN2
  clear hk hq hd hmn h8 hnw hbt hnum hlb hw3 hcut hNS hT hwt hf hbl
  clear hG hP hE hy hm8 hm1 hc0
  unfold gtC at HB HGT
  unfold gtV at HGT HCL HCG ⊢
  clear hB0 hX
  go_enter Try.func5, Try.ntmps5
  go_wp2_with fail
  refine HGT.out.mono ?_
  rintro e w1 ⟨o1, n1, e1, o2, n2, e2, o3, n3, e3, rfl, hf1, hf2, hf3, -, hb1⟩
  unfold gtV
  skip
  simp only at *
  have hba := awG w1 (.cells #[.int .i64 (wt : Int), .slice o1 n1 e1, .int .i64 (N2 : Int), .int .i64 (bl : Int), .int .i64 (bl : Int)] 44)
  have hbb := bl2 hb1 hba
  have HB1 := Hid.mk (bl2 HB.out hbb)
  have HR1 := Hid.mk (HR.out.kept hbb)
  have HX1 := Hid.mk (Row5.new w1 44 (.int .i64 (wt : Int)) (.slice o1 n1 e1) (.int .i64 (N2 : Int)) (.int .i64 (bl : Int)) (.int .i64 (bl : Int)))
  have HF1 := Hid.mk (isBytes_below hf1.1 hba)
  have HF2 := Hid.mk (isBytes_below hf2.1 hba)
  have HF3 := Hid.mk (isBytes_below hf3.1 hba)
  obtain ⟨a0, a1, a2, a3, a4⟩ := HR1.out.cells
  clear hf1 hf2 hf3 hb1 hba hbb HB HR HGT
  go_wp2_with fail
  generalize w1.alloc (.cells #[.int .i64 (wt : Int), .slice o1 n1 e1, .int .i64 (N2 : Int), .int .i64 (bl : Int), .int .i64 (bl : Int)] 44) = W1 at *
  generalize w1.heap.size = s1 at *
  refine (HCL.out _).mono ?_
  rintro e w2 ⟨rfl, hb2⟩
  have HB2 := Hid.mk (bl2 HB1.out hb2)
  have hb2' := hb2
  clear HCL a0 a1 a2 a3 a4
  go_wp2_with fail
  refine (hPT _).mono ?_
  rintro e w3 ⟨rfl, hb3⟩
  have hb3' := bl2 hb2' hb3
  have HB3 := Hid.mk (bl2 HB1.out hb3')
  obtain ⟨a0, a1, a2, a3, a4⟩ := (HR1.out.kept hb3').cells
  clear hb2 hb2' hb3 HB2
  go_wp2_with fail
  refine (HCG.out _).mono ?_
  rintro e w4 ⟨rfl, hb4⟩
  have hb4' := bl2 hb3' hb4
  have HR4 := Hid.mk (HR1.out.kept hb4')
  have HB4 := Hid.mk (bl2 HB1.out hb4')
  clear a0 a1 a2 a3 a4 hb4 hb3' HB3
  have hq5 := awG w4 (.cells #[.int .i64 0, .slice none 0 0, .int .i64 0, .int .i64 (bl : Int), .int .i64 0] 44)
  have hq6 := awG (w4.alloc (.cells #[.int .i64 0, .slice none 0 0, .int .i64 0, .int .i64 (bl : Int), .int .i64 0] 44)) (.cells #[.int .u8 48, .int .u8 (bl : Int), .int .u8 0] 5)
  have hq7 := bl2 hq5 hq6
  have hq8 := bl2 hb4' hq7
  have HB5 := Hid.mk (bl2 HB4.out hq7)
  have HR5 := Hid.mk (HR4.out.kept hq7)
  have HX5 := Hid.mk (HX1.out.kept hq8)
  have HW5 := Hid.mk ((Row5.new w4 44 (.int .i64 0) (.slice none 0 0) (.int .i64 0) (.int .i64 (bl : Int)) (.int .i64 0)).kept hq6)
  have HE1 := Hid.mk (isBytes_below HF1.out hq8)
  have HE2 := Hid.mk (isBytes_below HF2.out hq8)
  have HE3 := Hid.mk (isBytes_below HF3.out hq8)
  have HB4S : Hid (w.heap.size < w4.heap.size) := Hid.mk (by have := HR4.out.lt; omega)
  have HXS : Hid (s1 < w4.heap.size) := Hid.mk (HX1.out.kept hb4').lt
  have HL1 : Hid (∀ x, o1 = some x → 0 < n1 → x.block < w4.heap.size) := Hid.mk (fun x hx h0 => by subst hx; have h1 := isBytes_lt HF1.out h0; have := hb4'.size; omega)
  have HL2 : Hid (∀ x, o2 = some x → 0 < n2 → x.block < w4.heap.size) := Hid.mk (fun x hx h0 => by subst hx; have h1 := isBytes_lt HF2.out h0; have := hb4'.size; omega)
  have HL3 : Hid (∀ x, o3 = some x → 0 < n3 → x.block < w4.heap.size) := Hid.mk (fun x hx h0 => by subst hx; have h1 := isBytes_lt HF3.out h0; have := hb4'.size; omega)
  have HFL : Hid ((w4.alloc (.cells #[.int .i64 0, .slice none 0 0, .int .i64 0, .int .i64 (bl : Int), .int .i64 0] 44)).heap.size = w4.heap.size + 1) := Hid.mk (by simp)
  obtain ⟨-, -, -, i3, -⟩ := HR4.out.cells
  obtain ⟨-, -, -, j3, -⟩ := (HR4.out.kept hq5).cells
  obtain ⟨k0, k1, k2, k3, k4⟩ := HR5.out.cells
  clear hb4' hq5 hq6 hq7 hq8 HR1 HX1 HF1 HF2 HF3 HB1 HB4 HR4 HCG
  have d0 := cell_kept HB5.out HY0.out
  have hfw := isBytes_made (w4.alloc (.cells #[.int .i64 0, .slice none 0 0, .int .i64 0, .int .i64 (bl : Int), .int .i64 0] 44)) (flowL bl) (by unfold flowL; simp)
  rw [show (cellsOf (flowL bl)).toArray = #[.int .u8 48, .int .u8 (bl : Int), .int .u8 0] by (unfold cellsOf flowL; simp only [List.map]; rw [UInt8.toNat_ofNat_of_lt' (show bl < 256 by omega)]; rfl), HFL.out] at hfw
  have HFW : Hid (IsBytes ((w4.alloc (.cells #[.int .i64 0, .slice none 0 0, .int .i64 0, .int .i64 (bl : Int), .int .i64 0] 44)).alloc (.cells #[.int .u8 48, .int .u8 (bl : Int), .int .u8 0] 5)) (some ⟨w4.heap.size + 1, 0, none⟩) 3 3 (flowL bl)) := Hid.mk hfw
  clear hfw
  go_wp2_with fail
  generalize ((w4.alloc (.cells #[.int .i64 0, .slice none 0 0, .int .i64 0, .int .i64 (bl : Int), .int .i64 0] 44)).alloc (.cells #[.int .u8 48, .int .u8 (bl : Int), .int .u8 0] 5)) = W5 at *
  generalize w4.heap.size = s4 at *
  go_quiet (fail)
  have hbq : Below W5.heap.size W5 (W5.drewN nq) := drP (Below.refl _ _) nq
  have HB5 := Hid.mk (bl2 HB5.out hbq)
  have HR5 := Hid.mk (HR5.out.kept hbq)
  have HX5 := Hid.mk (HX5.out.kept hbq)
  have HW5 := Hid.mk (HW5.out.kept hbq)
  have HE1 := Hid.mk (isBytes_below HE1.out hbq)
  have HE2 := Hid.mk (isBytes_below HE2.out hbq)
  have HE3 := Hid.mk (isBytes_below HE3.out hbq)
  have HFW := Hid.mk (isBytes_below HFW.out hbq)
  clear d0 k0 k1 k2 k3 k4 i3 j3
  generalize W5.drewN nq = W6 at *
  have d0 := cell_kept HB5.out HY0.out
  obtain ⟨k0, k1, k2, k3, k4⟩ := HR5.out.cells
  have i3 := k3
  have j3 := k3
  have hne4 : w.heap.size ≠ s4 := by have := HB4S.out; omega
  have hle4 : w.heap.size ≤ s4 := by have := HB4S.out; omega
  have hne1 : s1 ≠ s4 := by have := HXS.out; omega
  obtain ⟨⟨z0, z1, z2, z3, z4⟩, ⟨y0, y1, y2, y3, y4⟩, ⟨p1, r1⟩, ⟨p2, r2⟩, ⟨p3, r3⟩, ⟨p4, r4⟩, hSX⟩ := HW5.out.ready (.int .i64 (wt : Int)) (.slice (some x) n cap) (.int .i64 (q : Int)) (.int .i64 (bl : Int)) (.int .i64 1)
  have HW5 := Hid.mk hSX
  have HB5 := Hid.mk (set5_below HB5.out hle4 (.int .i64 (wt : Int)) (.slice (some x) n cap) (.int .i64 (q : Int)) (.int .i64 (bl : Int)) (.int .i64 1))
  have HR5 := Hid.mk (HR5.out.far5 hne4 (.int .i64 (wt : Int)) (.slice (some x) n cap) (.int .i64 (q : Int)) (.int .i64 (bl : Int)) (.int .i64 1))
  have HX5 := Hid.mk (HX5.out.far5 hne1 (.int .i64 (wt : Int)) (.slice (some x) n cap) (.int .i64 (q : Int)) (.int .i64 (bl : Int)) (.int .i64 1))
  have HE1 := Hid.mk (isBytes_pos5 (g := s4) HE1.out (fun h0 x hx => by have := HL1.out x hx h0; omega) (.int .i64 (wt : Int)) (.slice (some x) n cap) (.int .i64 (q : Int)) (.int .i64 (bl : Int)) (.int .i64 1))
  have HE2 := Hid.mk (isBytes_pos5 (g := s4) HE2.out (fun h0 x hx => by have := HL2.out x hx h0; omega) (.int .i64 (wt : Int)) (.slice (some x) n cap) (.int .i64 (q : Int)) (.int .i64 (bl : Int)) (.int .i64 1))
  have HE3 := Hid.mk (isBytes_pos5 (g := s4) HE3.out (fun h0 x hx => by have := HL3.out x hx h0; omega) (.int .i64 (wt : Int)) (.slice (some x) n cap) (.int .i64 (q : Int)) (.int .i64 (bl : Int)) (.int .i64 1))
  have HFW := Hid.mk (isBytes_set5 HFW.out (show s4 + 1 ≠ s4 by omega) (.int .i64 (wt : Int)) (.slice (some x) n cap) (.int .i64 (q : Int)) (.int .i64 (bl : Int)) (.int .i64 1))
  unfold set5 at HW5 HB5 HE1 HE2 HE3 HFW
  clear hSX
  go_wp2_with fail
  generalize (((((W6.setCell ⟨s4, 0, none⟩ (.int .i64 (wt : Int))).setCell ⟨s4, 1, none⟩ (.slice (some x) n cap)).setCell ⟨s4, 2, none⟩ (.int .i64 (q : Int))).setCell ⟨s4, 3, none⟩ (.int .i64 (bl : Int))).setCell ⟨s4, 4, none⟩ (.int .i64 1)) = W7 at *
  clear z0 z1 z2 z3 z4 y0 y1 y2 y3 y4 p1 r1 p2 r2 p3 r3 p4 r4 k0 k1 k2 k3 k4 i3 j3 d0
  have HK : Hid (∀ W : World, Below W7.heap.size W7 W → W.cell? ⟨w.heap.size, 1, none⟩ = some (.slice (some x) n cap)) := Hid.mk (fun W hb => (HR5.out.kept hb).cells.2.1)
  have hd2 := bl2 (awG W7 (.cells #[.slice (some x) n cap, .slice (some ⟨y.block, y.off + 1, none⟩) (m - 1) (mc - 1)] 22)) (dwG (W7.alloc (.cells #[.slice (some x) n cap, .slice (some ⟨y.block, y.off + 1, none⟩) (m - 1) (mc - 1)] 22)))
  have HD2 := Hid.mk hd2
  have HCW := Hid.mk (HCO.out W7.heap.size (W7.alloc (.cells #[.slice (some x) n cap, .slice (some ⟨y.block, y.off + 1, none⟩) (m - 1) (mc - 1)] 22)).drew (bl2 HB5.out hd2) (cell_kept (dwG _) (cell_of_row _ _ 0 _ _ _ (heap_alloc_new W7 (.cells #[.slice (some x) n cap, .slice (some ⟨y.block, y.off + 1, none⟩) (m - 1) (mc - 1)] 22)))) (cell_kept (dwG _) (cell_of_row _ _ 1 _ _ _ (heap_alloc_new W7 (.cells #[.slice (some x) n cap, .slice (some ⟨y.block, y.off + 1, none⟩) (m - 1) (mc - 1)] 22)))))
  clear hd2
  go_region_held3 (fun W => W.cell? ⟨w.heap.size, 1, none⟩ = some (.slice (some x) n cap)) (with_reducible first | exact HK.out _ (dwG _) | exact HK.out _ HD2.out | exact HK.out _ HB7.out | exact ((HR5.out.kept HB7.out).far hne4 1 _).cells.2.1) (first
    | (go_at_call 24; with_reducible refine HCW.out.mono ?_; rintro e w8 ⟨g7, c7, rfl, hg7, hY7, hb7⟩
       have HB7 := Hid.mk (bl2 HD2.out hb7)
       have HY7 := Hid.mk hY7
       have HG7 := Hid.mk (Nat.le_trans HD2.out.size hg7)
       have e1' := (HW5.out.kept HB7.out).cells.2.1
       have f1' := (HW5.out.kept HB7.out).frozen 1
       clear hb7 hY7 hg7))
  have hg8 : s4 < g7 := by have := HW5.out.lt; have := HG7.out; omega
  have HB5 := Hid.mk (bl2 HB5.out HB7.out)
  have HR5 := Hid.mk (HR5.out.kept HB7.out)
  have HX5 := Hid.mk (HX5.out.kept HB7.out)
  have HW5 := Hid.mk (HW5.out.kept HB7.out)
  have HE1 := Hid.mk (isBytes_below HE1.out HB7.out)
  have HE2 := Hid.mk (isBytes_below HE2.out HB7.out)
  have HE3 := Hid.mk (isBytes_below HE3.out HB7.out)
  have HFW := Hid.mk (isBytes_below HFW.out HB7.out)
  have HB5 := Hid.mk (HB5.out.setCell (p := ⟨s4, 1, none⟩) hle4 (.slice (some ⟨g7, 0, none⟩) T c7))
  have HR5 := Hid.mk (HR5.out.far hne4 1 (.slice (some ⟨g7, 0, none⟩) T c7))
  have HX5 := Hid.mk (HX5.out.far hne1 1 (.slice (some ⟨g7, 0, none⟩) T c7))
  have HW5 := Hid.mk (HW5.out.set (.slice (some ⟨g7, 0, none⟩) T c7)).1.2.1
  have HE1 := Hid.mk (isBytes_pos1 (g := s4) HE1.out (fun h0 x hx => by have := HL1.out x hx h0; omega) 1 (.slice (some ⟨g7, 0, none⟩) T c7))
  have HE2 := Hid.mk (isBytes_pos1 (g := s4) HE2.out (fun h0 x hx => by have := HL2.out x hx h0; omega) 1 (.slice (some ⟨g7, 0, none⟩) T c7))
  have HE3 := Hid.mk (isBytes_pos1 (g := s4) HE3.out (fun h0 x hx => by have := HL3.out x hx h0; omega) 1 (.slice (some ⟨g7, 0, none⟩) T c7))
  have HY7 := Hid.mk (isBytes_set HY7.out (show g7 ≠ s4 by omega) 1 (.slice (some ⟨g7, 0, none⟩) T c7))
  have HFW := Hid.mk (isBytes_set HFW.out (show s4 + 1 ≠ s4 by omega) 1 (.slice (some ⟨g7, 0, none⟩) T c7))
  clear e1' f1'
  generalize w8.setCell ⟨s4, 1, none⟩ (.slice (some ⟨g7, 0, none⟩) T c7) = W9 at *
  obtain ⟨k0, k1, k2, k3, k4⟩ := HR5.out.cells
  have c2 := HW5.out.cells.2.2.1
  have f2 := HW5.out.frozen 2
  have HB5 := Hid.mk (HB5.out.setCell (p := ⟨s4, 2, none⟩) hle4 (.int .i64 (N2 : Int)))
  have HR5 := Hid.mk (HR5.out.far hne4 2 (.int .i64 (N2 : Int)))
  have HX5 := Hid.mk (HX5.out.far hne1 2 (.int .i64 (N2 : Int)))
  have HW5 := Hid.mk (HW5.out.set (.int .i64 (N2 : Int))).1.2.2
  have HE1 := Hid.mk (isBytes_pos1 (g := s4) HE1.out (fun h0 x hx => by have := HL1.out x hx h0; omega) 2 (.int .i64 (N2 : Int)))
  have HE2 := Hid.mk (isBytes_pos1 (g := s4) HE2.out (fun h0 x hx => by have := HL2.out x hx h0; omega) 2 (.int .i64 (N2 : Int)))
  have HE3 := Hid.mk (isBytes_pos1 (g := s4) HE3.out (fun h0 x hx => by have := HL3.out x hx h0; omega) 2 (.int .i64 (N2 : Int)))
  have HY7 := Hid.mk (isBytes_set HY7.out (show g7 ≠ s4 by omega) 2 (.int .i64 (N2 : Int)))
  have HFW := Hid.mk (isBytes_set HFW.out (show s4 + 1 ≠ s4 by omega) 2 (.int .i64 (N2 : Int)))
  obtain ⟨m0, m1, m2, m3, m4⟩ := HR5.out.cells
  have c4 := HW5.out.cells.2.2.2.2
  have f4 := HW5.out.frozen 4
  have HB5 := Hid.mk (HB5.out.setCell (p := ⟨s4, 4, none⟩) hle4 (.int .i64 0))
  have HR5 := Hid.mk (HR5.out.far hne4 4 (.int .i64 0))
  have HX5 := Hid.mk (HX5.out.far hne1 4 (.int .i64 0))
  have HW5 := Hid.mk (HW5.out.set (.int .i64 0)).2.2
  have HE1 := Hid.mk (isBytes_pos1 (g := s4) HE1.out (fun h0 x hx => by have := HL1.out x hx h0; omega) 4 (.int .i64 0))
  have HE2 := Hid.mk (isBytes_pos1 (g := s4) HE2.out (fun h0 x hx => by have := HL2.out x hx h0; omega) 4 (.int .i64 0))
  have HE3 := Hid.mk (isBytes_pos1 (g := s4) HE3.out (fun h0 x hx => by have := HL3.out x hx h0; omega) 4 (.int .i64 0))
  have HY7 := Hid.mk (isBytes_set HY7.out (show g7 ≠ s4 by omega) 4 (.int .i64 0))
  have HFW := Hid.mk (isBytes_set HFW.out (show s4 + 1 ≠ s4 by omega) 4 (.int .i64 0))
  have c5 := HW5.out.cells.2.2.2.2
  have f5 := HW5.out.frozen 4
  obtain ⟨u0, u1, u2, u3, u4⟩ := HR5.out.cells
  have HB5 := Hid.mk (HB5.out.setCell (p := ⟨s4, 4, none⟩) hle4 (.int .i64 (bl : Int)))
  have HR5 := Hid.mk (HR5.out.far hne4 4 (.int .i64 (bl : Int)))
  have HX5 := Hid.mk (HX5.out.far hne1 4 (.int .i64 (bl : Int)))
  have HW5 := Hid.mk (HW5.out.set (.int .i64 (bl : Int))).2.2
  have HE1 := Hid.mk (isBytes_pos1 (g := s4) HE1.out (fun h0 x hx => by have := HL1.out x hx h0; omega) 4 (.int .i64 (bl : Int)))
  have HE2 := Hid.mk (isBytes_pos1 (g := s4) HE2.out (fun h0 x hx => by have := HL2.out x hx h0; omega) 4 (.int .i64 (bl : Int)))
  have HE3 := Hid.mk (isBytes_pos1 (g := s4) HE3.out (fun h0 x hx => by have := HL3.out x hx h0; omega) 4 (.int .i64 (bl : Int)))
  have HY7 := Hid.mk (isBytes_set HY7.out (show g7 ≠ s4 by omega) 4 (.int .i64 (bl : Int)))
  have HFW := Hid.mk (isBytes_set HFW.out (show s4 + 1 ≠ s4 by omega) 4 (.int .i64 (bl : Int)))
  obtain ⟨v0, v1, v2, v3, v4⟩ := HW5.out.cells
  have HNL : Hid (IsBytes (((W9.setCell ⟨s4, 2, none⟩ (.int .i64 (N2 : Int))).setCell ⟨s4, 4, none⟩ (.int .i64 0)).setCell ⟨s4, 4, none⟩ (.int .i64 (bl : Int))) none 0 0 []) := Hid.mk ⟨rfl, Nat.le_refl _, Nat.zero_le _, fun _ => rfl, fun y hy => by cases hy⟩
  have HSS := Hid.mk (sameGetter_true o1 (some ⟨g7, 0, none⟩) n1 T e1 c7 DT (wt : Int) (N2 : Int) (bl : Int) (bl : Int) _ HE1.out HY7.out)
  have HSB := Hid.mk HFW.out
  have HAB := Hid.mk HNL.out
  unfold gtV at HSS
  obtain ⟨x0, x1, x2, x3, x4⟩ := HX5.out.cells
  go_wp2_with fail
  refine HSS.out.mono ?_
  rintro e w7 ⟨rfl, hb7⟩
  have HB7 := Hid.mk (bl2 HB5.out hb7)
  have HQ2 := Hid.mk (equal_is (isBytes_below HE2.out hb7) (isBytes_below HSB.out hb7))
  have HA7 := Hid.mk (isBytes_below HAB.out hb7)
  have HE7 := Hid.mk (isBytes_below HE3.out hb7)
  clear hb7 HSS x0 x1 x2 x3 x4 HB5
  go_wp2_with fail
  refine HQ2.out.mono ?_
  rintro e w8 ⟨rfl, hb8⟩
  have HB8 := Hid.mk (bl2 HB7.out hb8)
  have HQ3 := Hid.mk (equal_is (isBytes_below HE7.out hb8) (isBytes_below HA7.out hb8))
  clear hb8 HB7 HQ2 HA7 HE7
  go_wp2_with fail
  refine HQ3.out.mono ?_
  rintro e w9 ⟨rfl, hb9⟩
  have HB9 := Hid.mk (bl2 HB8.out hb9)
  clear hb9 HB8 HQ3
  go_wp2_with fail
  go_ret
  exact ⟨by first | rfl | simp, HB9.out⟩
end Bw
end Go.Proofs.Ytljigcmhkjbhjaa
