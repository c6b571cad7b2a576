/- What package part's partOf, letThrough and idle answer. -/
import Derived.Test.YtgjnfmbmndnihaaPtSmall
namespace Go.Proofs.Ytgjnfmbmndnihaa
open Go.ChangeShapes Go.WideShapes Go.ChangeAt Go.RowKit
namespace Bw
open Bm
set_option maxHeartbeats 4000000 in
set_option maxRecDepth 100000 in
theorem partOf_some (x y : Addr) (lx cx ly cy : Nat) (L S : List UInt8) (w : World) (hL : IsBytes w (some x) lx cx L) (hS : IsBytes w (some y) ly cy S) (h1 : lx ≤ 300) (h2 : ly ≤ 8) :
    Calls Try.prog 42 #[.slice (some x) lx cx, .slice (some y) ly cy] w fun e w' => ∃ g c, e = .returned (.slice (some ⟨g, 0, none⟩) (ly + lx) c) ∧ w.heap.size ≤ g ∧ IsBytes w' (some ⟨g, 0, none⟩) (ly + lx) c (S ++ L) ∧ Below w.heap.size w w' := by
  obtain ⟨i0, hi, hz0, hz1, hz2⟩ := info_parts info_u8
  have HC := Hid.mk (cloneBy_some y ly cy S w hS (by omega))
  have HCL : Hid ((cellsOf L).length = lx * 1) := Hid.mk (by rw [cellsOf_length, hL.1, Nat.mul_one])
  have HL := Hid.mk hL
  clear hL hS
  go_enter Try.func42, Try.ntmps42
  go_wp2_with fail
  refine HC.out.mono ?_
  rintro e w1 ⟨g, c, rfl, hown, hg, hb1⟩
  have HO := Hid.mk hown
  have HB := Hid.mk hb1
  have HG := Hid.mk hg
  have HCC := Hid.mk (bytes_cells (isBytes_below HL.out hb1))
  clear hown hb1 hg HC HL
  go_wp2_with (at_builtin; refine wpList_append_own _ rfl (.tmp 6) (.tmp 7) 22 rfl w.heap.size 5 i0 (.int .u8 0) 1 1 Try.underlying22 hi hz0 hz1 hz2 rfl (by decide) _ _ _ rfl HO.out x lx cx (cellsOf L) rfl HCL.out HCC.out (by intro u hu; simp [cellsOf] at hu; obtain ⟨c, -, rfl⟩ := hu; rfl) (by unfold maxLen; omega) (by omega) HB.out.size ?_; intro v3 w3 hown3 hgrow3 hnil3)
  rw [← cellsOf_append] at hown3
  obtain ⟨g3, c3, rfl⟩ : ∃ g c, v3 = .slice (some ⟨g, 0, none⟩) (ly + lx) c := by
    rcases hown3.2 with ⟨h1, _⟩ | ⟨g, c, cur, h1, _⟩
    · have h2 := hnil3.1 h1
      cases h2.1
    · exact ⟨g, c, h1⟩
  have hB3 : Below w.heap.size w w3 := Below.grown HB.out hgrow3 HB.out.size (fun q hq => (HO.out.lt q hq).1)
  have hg3 : w.heap.size ≤ g3 := by
    rcases hown3.2 with ⟨h0, _⟩ | ⟨g', cap', cur, hv, hg, _⟩
    · cases h0
    · cases hv; exact hg
  go_ret
  exact ⟨g3, c3, rfl, hg3, isBytes_ownG hown3, hB3⟩
set_option maxHeartbeats 4000000 in
set_option maxRecDepth 100000 in
theorem partOf_nil (y : Addr) (ly cy : Nat) (S : List UInt8) (w : World) (hS : IsBytes w (some y) ly cy S) (h2 : ly ≤ 8) :
    Calls Try.prog 42 #[.slice none 0 0, .slice (some y) ly cy] w fun e w' => ∃ g c, e = .returned (.slice (some ⟨g, 0, none⟩) ly c) ∧ w.heap.size ≤ g ∧ IsBytes w' (some ⟨g, 0, none⟩) ly c S ∧ Below w.heap.size w w' := by
  obtain ⟨i0, hi, hz0, hz1, hz2⟩ := info_parts info_u8
  have HC := Hid.mk (cloneBy_some y ly cy S w hS (by omega))
  clear hS
  go_enter Try.func42, Try.ntmps42
  go_wp2_with fail
  refine HC.out.mono ?_
  rintro e w1 ⟨g, c, rfl, hown, hg, hb1⟩
  have HO := Hid.mk hown
  have HB := Hid.mk hb1
  have HG := Hid.mk hg
  clear hown hb1 hg HC
  go_wp2_with (at_builtin; refine wpList_append_own_none rfl (.tmp 6) (.tmp 7) 22 rfl w.heap.size 5 i0 1 Try.underlying22 hi _ _ _ rfl HO.out rfl ?_)
  go_ret
  exact ⟨g, c, rfl, HG.out, isBytes_ownG HO.out, HB.out⟩
/-- bytes in a block that is made -/
theorem isBytes_made (w : World) (l : List UInt8) (h : l.length ≤ 300) : IsBytes (w.alloc (.cells (cellsOf l).toArray 5)) (some ⟨w.heap.size, 0, none⟩) l.length l.length l := by
  refine ⟨rfl, Nat.le_refl _, by unfold maxLen; omega, fun e => (by cases e), fun x hx i hi => ?_⟩
  cases hx
  rw [Addr.add_lit, Nat.zero_add, cell_of_row _ _ i _ _ _ (heap_alloc_new w _), List.getElem?_toArray]
  exact cells_atG l i hi
theorem byteC (n : Nat) (h : n < 256) : Value.int .u8 (n : Int) = .int .u8 ((UInt8.ofNat n).toNat : Int) := by
  rw [UInt8.toNat_ofNat_of_lt' h]
/-- what lets through so many -/
def flowL (b : Nat) : List UInt8 := [48, UInt8.ofNat b, 0]
set_option maxHeartbeats 4000000 in
set_option maxRecDepth 100000 in
theorem letThrough_any (b : Nat) (w : World) (hb : b ≤ 255) :
    Calls Try.prog 48 #[.int .i64 b] w fun e w' => ∃ g c, e = .returned (.slice (some ⟨g, 0, none⟩) 3 c) ∧ w.heap.size ≤ g ∧ IsBytes w' (some ⟨g, 0, none⟩) 3 c (flowL b) ∧ Below w.heap.size w w' := by
  have h0 := isBytes_made w (flowL b) (by unfold flowL; simp)
  have hcs : (cellsOf (flowL b)).toArray = #[.int .u8 48, .int .u8 (b : Int), .int .u8 0] := by
    unfold cellsOf flowL
    simp only [List.map]
    rw [UInt8.toNat_ofNat_of_lt' (show b < 256 by omega)]
    rfl
  rw [hcs] at h0
  have HP := Hid.mk (partOf_nil ⟨w.heap.size, 0, none⟩ 3 3 (flowL b) _ h0 (by decide))
  have HB := Hid.mk (awG w (.cells #[.int .u8 48, .int .u8 (b : Int), .int .u8 0] 5))
  have hb' : (b : Int) ≤ 255 := by omega
  have hb2 : (b : Int) % 256 = (b : Int) := by omega
  clear h0 hcs hb
  go_enter Try.func48, Try.ntmps48
  go_wp2_with fail
  refine HP.out.mono ?_
  rintro e w1 ⟨g, c, rfl, hg, hD, hb1⟩
  have HB1 := Hid.mk (bl2 HB.out hb1)
  have HG := Hid.mk (Nat.le_trans HB.out.size hg)
  have HD := Hid.mk hD
  clear hb1 hg hD HP HB
  go_wp2_with fail
  go_ret
  exact ⟨g, c, rfl, HG.out, HD.out, HB1.out⟩
def gtV (want : Int) (a : Option Addr) (len cap : Nat) (next block left : Int) : Value := .agg #[.int .i64 want, .slice a len cap, .int .i64 next, .int .i64 block, .int .i64 left]
def gtC (want : Int) (a : Option Addr) (len cap : Nat) (next block left : Int) : Obj := .cells #[.int .i64 want, .slice a len cap, .int .i64 next, .int .i64 block, .int .i64 left] 44
theorem gt_i : (Try.prog.info? 44).map (·.size) = some 5 := by kernel_rfl
theorem new2P (w : World) (o p : Obj) : (w.alloc o).alloc p |>.heap[w.heap.size + 1]? = some (p) := by
  have h := heap_alloc_new (w.alloc o) p
  rw [show (w.alloc o).heap.size = w.heap.size + 1 by simp] at h
  exact h
set_option maxHeartbeats 2000000 in
set_option maxRecDepth 100000 in
theorem idle_any (want : Int) (a : Option Addr) (len cap : Nat) (next block left : Int) (w : World) :
    Calls Try.prog 47 #[gtV want a len cap next block left] w fun e w' => e = .returned (gtV 0 none 0 0 0 block 0) ∧ Below w.heap.size w w' := by
  have HN := Hid.mk (new2P w (gtC want a len cap next block left) (gtC 0 none 0 0 0 block 0))
  have HB := Hid.mk (bl2 (awG w (gtC want a len cap next block left)) (awG (w.alloc (gtC want a len cap next block left)) (gtC 0 none 0 0 0 block 0)))
  unfold gtC at HN HB
  unfold gtV
  go_enter Try.func47, Try.ntmps47
  go_wp2_with fail
  refine bodyPost_ret (results_cell_row rfl _ _ (w.heap.size + 1) _ _ _ _ rfl HN.out Try.underlying44 rfl gt_i) rfl ?_
  exact ⟨rfl, HB.out⟩
end Bw
end Go.Proofs.Ytgjnfmbmndnihaa
