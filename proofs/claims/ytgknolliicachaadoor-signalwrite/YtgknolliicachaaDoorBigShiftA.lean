/- omnibusbig: right, Lsh, Rsh, IsInt. -/
import Derived.Test.YtgknolliicachaaDoorWordsMore
import Derived.Test.YtgknolliicachaaDoorBigZ
import Derived.Test.YtgknolliicachaaDoorWordsLeft
import Derived.Deep.RegionWith
import Derived.Test.YtgknolliicachaaDoorBigRmore
import Derived.Test.YtgknolliicachaaDoorBigCmp
namespace Go.Proofs.YtgknolliicachaaDoor
open Go.ChangeShapes Go.WideShapes Go.ChangeAt Go.RowKit
namespace Ww
open Wm
def rgW (xs : List Nat) (k : Nat) : Nat := (xs.getD k 0 + 4294967296 * xs.getD (k + 1) 0) / 2 % 4294967296
def rgL (xs : List Nat) (k : Nat) : List Nat := (List.range k).map (rgW xs)
theorem rgL_length (xs : List Nat) (k : Nat) : (rgL xs k).length = k := by simp [rgL]
theorem rgL_succ (xs : List Nat) (k : Nat) : rgL xs (k + 1) = rgL xs k ++ [rgW xs k] := by simp [rgL, List.range_succ]
theorem rgL_ok (xs : List Nat) (k : Nat) : okW (rgL xs k) := by
  intro x hx
  obtain ⟨i, _, rfl⟩ := List.mem_map.1 hx
  exact Nat.mod_lt _ (by omega)
theorem rgL_val {xs : List Nat} (hok : okW xs) (h2 : xs.length ≤ 2) : valW (rgL xs xs.length) = valW xs / 2 := by
  match xs, h2 with
  | [], _ => rfl
  | [x], _ =>
    have hx := hok x (by simp)
    simp [rgL, rgW, valW, List.range_succ]
    omega
  | [x, y], _ =>
    have hx := hok x (by simp)
    have hy := hok y (by simp)
    simp [rgL, rgW, valW, List.range_succ]
    omega
set_option maxHeartbeats 8000000 in
set_option maxRecDepth 100000 in
theorem right_one (va : Value) (xs : List Nat) (w : World) (ha : IsW w va xs) (h0 : 0 < xs.length) (h2 : xs.length ≤ 2) (hv : valW xs < 2 ^ 62) :
    Calls Tryd.prog 76 #[va, .int .u64 1] w fun e w' => ∃ v' rs, e = .returned v' ∧ IsW w' v' rs ∧ valW rs = valW xs / 2 ∧ trimW rs ∧ Below w.heap.size w w' := by
  obtain ⟨a, ca, rfl, hca, hma, hna, hcea, hoa⟩ := ha
  have hy30 : ∀ k, k + 1 < xs.length → xs.getD (k + 1) 0 < 1073741824 := by
    intro k hk
    match xs, h2 with
    | [x], _ => simp at hk
    | [x, y], _ =>
      have hk0 : k = 0 := by simp at hk; omega
      subst hk0
      have hx := hoa x (by simp)
      simp [valW] at hv ⊢
      omega
  have HY30 := Hid.mk hy30
  have HVAL := Hid.mk (rgL_val hoa h2)
  have HCA := Hid.mk hcea
  have HNA := Hid.mk hna
  have HOA := Hid.mk hoa
  obtain ⟨nA, hnA⟩ : ∃ n, n = xs.length := ⟨_, rfl⟩
  rw [← hnA] at h0 h2 HVAL ⊢
  have HLA := Hid.mk hnA
  have g1 : (nA : Int) ≤ 2 := by omega
  have g2 : (0 : Int) < (nA : Int) := by omega
  obtain ⟨i0, hi, hz0, hz1, hz2⟩ := info_parts info_u32
  clear hcea hna hoa hnA hca hma hy30 hv
  go_enter Tryd.func76, Tryd.ntmps76
  go_wp2_with (at_make; refine wpList_make_full _ rfl (.tmp 22) (.tmp 22) 66 rfl w.heap.size 99 i0 (.int .u32 0) 1 Tryd.underlying66 hi hz0 hz1 .i64 .i64 _ _ nA rfl rfl (by omega) (by omega) (by rw [hz2]; omega) (by unfold maxLen; omega) (Nat.le_refl _) ?_; intro w2 hown hgrow)
  have hown0 : w2.ownsRow w.heap.size 99 1 (.slice (some ⟨w.heap.size, 0, none⟩) nA nA) nA (cellsW (rgL xs 0 ++ List.replicate (nA - 0) 0)) := by
    have := cellsW_rep nA
    rw [show rgL xs 0 = [] from rfl, this, ← toList_madeCells_one]
    rw [Nat.mul_one] at hown
    exact hown
  have hb2 : Below w.heap.size w w2 := Below.grown (Below.refl _ _) hgrow (Nat.le_refl _) (fun q hq => by cases hq)
  clear hown hgrow hi hz0 hz1 hz2
  go_wp2_with fail
  go_loopw [8] (fun i wr => ∃ k : Nat, k ≤ nA ∧ i = .int .i64 k ∧ wr.ownsRow w.heap.size 99 1 (.slice (some ⟨w.heap.size, 0, none⟩) nA nA) nA (cellsW (rgL xs k ++ List.replicate (nA - k) 0)) ∧ Below w.heap.size w wr) (fun i _ => nA - (intOf i).toNat)
  case atStart => exact ⟨0, Nat.zero_le _, rfl, hown0, hb2⟩
  case round =>
    clear hown0 hb2
    obtain ⟨k, hk, rfl, hown, hbel⟩ := hrel
    by_cases hlt : k < nA
    · cases a with
      | none => exact absurd (HNA.out rfl) (by have := HLA.out; omega)
      | some p =>
        have hcx := Bw.cell_kept hbel (HCA.out p rfl k (by have := HLA.out; omega))
        have hxk := okW_getD HOA.out k
        have hlt' : (k : Int) < (nA : Int) := by omega
        have hc3 := hown.cellAt k (by omega)
        have hf3 := hown.frozenAt k
        rw [cellsW_at (rgL xs k) nA k (rgL_length xs k) (by omega)] at hc3
        have hst := hown.stored k (.int .u32 (rgW xs k : Int))
        rw [cellsW_set (rgL xs k) nA k (rgW xs k) (rgL_length xs k) (by omega), ← rgL_succ] at hst
        have HST := Hid.mk hst
        clear hst hown
        have hrw : rgW xs k = (xs.getD k 0 + 4294967296 * xs.getD (k + 1) 0) / 2 % 4294967296 := rfl
        by_cases hly : k + 1 < nA
        · have hcy := Bw.cell_kept hbel (HCA.out p rfl (k + 1) (by have := HLA.out; omega))
          have hy30 := HY30.out k (by have := HLA.out; omega)
          generalize rgW xs k = R at *
          generalize xs.getD (k + 1) 0 = y at *
          generalize xs.getD k 0 = x at *
          have hor := or_hiW x y hxk hy30
          have hx' : (x : Int) ≤ 4294967295 := by omega
          have hy' : (y : Int) ≤ 1073741823 := by omega
          have hly' : (k : Int) + 1 < (nA : Int) := by omega
          have hcy2 : wr.cell? ⟨p.block, p.off + (k + 1), none⟩ = some (.int .u32 (y : Int)) := by rw [← hcy]; simp [Addr.add]
          have hsv : IntKind.u32.wrap (((x : Int) + 4294967296 * (y : Int)) / 2) = (R : Int) := by rw [IntKind.wrap_u32, hrw]; omega
          have hsw : (((x : Int) + 4294967296 * (y : Int)) / 2) % 4294967296 = (R : Int) := by rw [hrw]; omega
          clear hrw
          go_wp2_with fail
          go_roundw
          case rel => exact ⟨k + 1, by omega, by go_num, HST.out.1, hbel.grown HST.out.2 hbel.size (fun q hq => by cases hq; exact Nat.le_refl _)⟩
          case measure => simp [intOf]; omega
        · have hy0 : xs.getD (k + 1) 0 = 0 := by
            have := HLA.out
            rw [List.getD_eq_getElem?_getD, List.getElem?_eq_none (by omega)]
            rfl
          rw [hy0] at hrw
          generalize rgW xs k = R at *
          generalize xs.getD k 0 = x at *
          have hx' : (x : Int) ≤ 4294967295 := by omega
          have hly' : (nA : Int) ≤ (k : Int) + 1 := by omega
          have hsv : IntKind.u32.wrap ((x : Int) / 2) = (R : Int) := by rw [IntKind.wrap_u32, hrw]; omega
          have hsw : ((x : Int) / 2) % 4294967296 = (R : Int) := by rw [hrw]; omega
          clear hrw hy0
          go_wp2_with fail
          go_roundw
          case rel => exact ⟨k + 1, by omega, by go_num, HST.out.1, hbel.grown HST.out.2 hbel.size (fun q hq => by cases hq; exact Nat.le_refl _)⟩
          case measure => simp [intOf]; omega
    · have e : k = nA := by omega
      subst e
      rw [Nat.sub_self, List.replicate_zero, List.append_nil] at hown
      have HTR := Hid.mk (trim_any _ (rgL xs k) wr (isW_own hown (rgL_length xs k) (by unfold maxLen; omega) (rgL_ok xs k)) (by rw [rgL_length]; omega))
      have HBL := Hid.mk hbel
      clear hown hbel
      go_wp2_with fail
      with_reducible refine HTR.out.mono ?_
      rintro e w3 ⟨v', ys, rfl, hy1, hy2, hy3, -, hw3⟩
      obtain rfl := hw3.symm
      have HY1 := Hid.mk hy1
      have HY2 := Hid.mk hy2
      have HY3 := Hid.mk hy3
      clear hy1 hy2 hy3
      go_wp2_with fail
      go_ret
      exact ⟨_, ys, rfl, HY1.out, by rw [HY2.out, HVAL.out], HY3.out, HBL.out⟩
end Ww
end Go.Proofs.YtgknolliicachaaDoor
namespace Go.Proofs.YtgknolliicachaaDoor
open Go.ChangeShapes Go.WideShapes Go.ChangeAt Go.RowKit Go.Sort
namespace Ww
open Wm
open Bw (Tch bl2 cell_kept)
set_option maxHeartbeats 8000000 in
set_option maxRecDepth 100000 in
theorem ilsh_z (gz : Nat) (cs : List Value) (T : TypeId) (gx n : Nat) (w : World) (hx : ZAt w gx 0 1) (hB : BlkAt w gz cs T) (hi : IntV cs) (hn : n ≤ 40) :
    Calls Tryd.prog 51 #[.pointer (some ⟨gz, 0, none⟩), .pointer (some ⟨gx, 0, none⟩), .int .u64 n] w fun e w' => e = .returned (.pointer (some ⟨gz, 0, none⟩)) ∧ OutZ w w' gz 0 cs T (2 ^ n) := by
  obtain ⟨va, xs, h1, h2, h3, h4, h5⟩ := hx
  have hl := len_two h4 (show valW xs < 2 ^ 62 by rw [h5]; decide)
  have hB' : BlkAt w.drew gz cs T := hB
  have hL := left_any va xs n w.drew h3 (by omega) (by omega)
  rw [h5, show (1 : Int).natAbs * 2 ^ n = 2 ^ n by simp] at hL
  have HTW := Hid.mk hL
  have hpos : (0 : Int) < 2 ^ n := Int.pow_pos (by omega)
  have hna : ((2 : Int) ^ n).natAbs = 2 ^ n := by rw [Int.natAbs_pow]; rfl
  obtain ⟨b0, a0, l0, c0, hcs⟩ := hi
  have HGV := Hid.mk (fun v' rs W (hb : Below w.drew.heap.size w.drew W) (hW : IsW W v' rs) (ht : trimW rs) (hv : valW rs = 2 ^ n) => give_z gz 0 cs T false v' rs (2 ^ n) W (hB'.kept hb) (IntV.noW ⟨b0, a0, l0, c0, hcs⟩) ⟨b0, by rw [hcs]; rfl⟩ ⟨a0, l0, c0, by rw [hcs]; rfl⟩ hW ht (by rw [hv, hna]) (fun _ => (decide_eq_false (by omega)).symm))
  obtain ⟨a, l, c, rfl⟩ := h3.sliceB
  have d1 : w.drew.cell? ⟨gx, 0, none⟩ = some (.bool false) := h1
  have d2 : w.drew.cell? ⟨gx, 1, none⟩ = some (.slice a l c) := h2
  clear h1 h2 h3 h4 h5 hl hB hB' hL hcs hpos hna hn
  go_enter Tryd.func51, Tryd.ntmps51
  go_wp2_with fail
  go_region_with (first
    | (go_at_call 74; with_reducible refine HTW.out.mono ?_; rintro e w1 ⟨v', rs, rfl, hW1, hv1, ht1, -, hb1⟩
       have d3 := cell_kept hb1 d1
       have HG := Hid.mk (HGV.out v' rs w1 hb1 hW1 ht1 hv1)
       have HB1 := Hid.mk hb1
       clear hW1 hb1 hv1 ht1)
    | (go_at_call 73; with_reducible refine HG.out.mono ?_; rintro e w2 ⟨rfl, hO⟩
       have HO := Hid.mk hO
       clear hO))
  all_goals
    go_wp2_with fail
    go_ret
    exact ⟨rfl, HO.out.pre (bl2 (drBw1 w) HB1.out)⟩
set_option maxHeartbeats 8000000 in
set_option maxRecDepth 100000 in
theorem irsh_z (g : Nat) (cs : List Value) (T : TypeId) (r : Int) (w : World) (hx : ZAt w g 0 r) (hB : BlkAt w g cs T) (hi : IntV cs) (hr0 : 0 < r) (hr : r ≤ 4611686018427387903) :
    Calls Tryd.prog 52 #[.pointer (some ⟨g, 0, none⟩), .pointer (some ⟨g, 0, none⟩), .int .u64 1] w fun e w' => e = .returned (.pointer (some ⟨g, 0, none⟩)) ∧ OutZ w w' g 0 cs T (r / 2) := by
  obtain ⟨va, xs, h1, h2, h3, h4, h5⟩ := hx
  have hv62 : valW xs < 2 ^ 62 := by omega
  have hl := len_two h4 hv62
  have hp : 0 < xs.length := (trim_pos h4 (by obtain ⟨_, _, _, _, _, _, _, h⟩ := h3; exact h) h5).2 (by omega)
  have HTW := Hid.mk (right_one va xs w h3 hp hl hv62)
  have hdn : decide (r < 0) = false := decide_eq_false (by omega)
  rw [hdn] at h1
  obtain ⟨b0, a0, l0, c0, hcs⟩ := hi
  have HGV := Hid.mk (fun v' rs W (hb : Below w.heap.size w W) (hW : IsW W v' rs) (ht : trimW rs) (hv : valW rs = valW xs / 2) => give_z g 0 cs T false v' rs (r / 2) W (hB.kept hb) (IntV.noW ⟨b0, a0, l0, c0, hcs⟩) ⟨b0, by rw [hcs]; rfl⟩ ⟨a0, l0, c0, by rw [hcs]; rfl⟩ hW ht (by rw [hv, h5]; omega) (fun _ => (decide_eq_false (by omega)).symm))
  obtain ⟨a, l, c, rfl⟩ := h3.sliceB
  clear h3 h4 h5 hl hB hcs hr0 hr hv62 hp hdn
  go_enter Tryd.func52, Tryd.ntmps52
  go_wp2_with fail
  with_reducible refine HTW.out.mono ?_
  rintro e w1 ⟨v', rs, rfl, hW1, hv1, ht1, hb1⟩
  have HG := Hid.mk (HGV.out v' rs w1 hb1 hW1 ht1 hv1)
  have HB1 := Hid.mk hb1
  clear hW1 hb1 hv1 ht1
  go_wp2_with fail
  with_reducible refine HG.out.mono ?_
  rintro e w2 ⟨rfl, hO⟩
  have HO := Hid.mk hO
  clear hO
  go_wp2_with fail
  go_ret
  exact ⟨rfl, HO.out.pre HB1.out⟩
end Ww
end Go.Proofs.YtgknolliicachaaDoor
namespace Go.Proofs.YtgknolliicachaaDoor
open Go.ChangeShapes Go.WideShapes Go.ChangeAt Go.RowKit Go.Sort
namespace Ww
open Wm Sm
open Bw (Tch bl2 cell_kept)
theorem cmpI_zero (x y : Int) : (cmpI x y == 0) = decide (x = y) := by
  unfold cmpI
  by_cases h1 : x < y
  · rw [if_pos h1, decide_eq_false (by omega)]; rfl
  · rw [if_neg h1]
    by_cases h2 : y < x
    · rw [if_pos h2, decide_eq_false (by omega)]; rfl
    · rw [if_neg h2, decide_eq_true (by omega)]; rfl
set_option maxHeartbeats 8000000 in
set_option maxRecDepth 100000 in
theorem risint_z (g : Nat) (a b : Int) (w : World) (h : RatAt w g a b) (hb : 0 < b) (hb2 : b ≤ 4611686018427387903) :
    Calls Tryd.prog 49 #[.pointer (some ⟨g, 0, none⟩)] w fun e w' => e = .returned (.bool (decide (b = 1))) ∧ Below w.heap.size w w' := by
  have HD := Hid.mk (den_z g a b w h (by omega))
  have HN := Hid.mk (newInt_z 1 w (by omega) (by omega))
  have HC := Hid.mk (fun W (hz : ZAt W w.heap.size 0 1) (hb' : Below w.heap.size w W) => icmp_z g 2 w.heap.size 0 b 1 W (h.kept hb').den hz (by omega) hb2 (by omega) (by omega))
  have HE := Hid.mk (cmpI_zero b 1)
  generalize cmpI b 1 = C at *
  generalize hE : decide (b = 1) = E at *
  clear h hb hb2 hE
  go_enter Tryd.func49, Tryd.ntmps49
  go_wp2_with fail
  with_reducible refine HD.out.mono ?_
  rintro e w1 ⟨rfl, hw1⟩
  obtain rfl := hw1.symm
  go_wp2_with fail
  with_reducible refine HN.out.mono ?_
  rintro e w2 ⟨rfl, hz2, -, hb2⟩
  have HC2 := Hid.mk (HC.out w2 hz2 hb2)
  have HB2 := Hid.mk hb2
  clear hz2 hb2 HC
  go_wp2_with fail
  with_reducible refine HC2.out.mono ?_
  rintro e w3 ⟨rfl, hb3⟩
  have HB3 := Hid.mk (bl2 HB2.out hb3)
  clear hb3
  have hce : (C == 0) = E := HE.out
  go_wp2_with fail
  go_ret
  exact ⟨rfl, HB3.out⟩
end Ww
end Go.Proofs.YtgknolliicachaaDoor
