/- Joined out of our texts: RefFast. -/
import Derived.Test.YthdhhmflfdbkhaaGreatDoorFrameMath
import Derived.Test.YthdhhmflfdbkhaaGreatDoorLawWireNoiseRAP
import Derived.Test.YthdhhmflfdbkhaaGreatDoorLawWireNoiseRAS
import Derived.BigQuiet
import Derived.Lib.QuietBelow
/- What the document's own fastEnd answers: the count and the sum of a fast frame, with its fixed bits. -/
namespace Go.Proofs.YthdhhmflfdbkhaaGreatDoor
open Go.ChangeShapes Go.WideShapes Go.ChangeAt Go.RowKit
namespace Bw
open Bm Cm Go.Sort

def grayC : Obj := .cells #[.string ⟨#[48, 48, 48, 48]⟩, .string ⟨#[48, 48, 49, 49]⟩, .string ⟨#[48, 49, 49, 48]⟩, .string ⟨#[48, 49, 48, 49]⟩, .string ⟨#[49, 49, 48, 48]⟩, .string ⟨#[49, 49, 49, 49]⟩, .string ⟨#[49, 48, 49, 48]⟩, .string ⟨#[49, 48, 48, 49]⟩] 9
theorem gray_cell (w : World) (g n : Nat) (hg : g = w.heap.size) (hn : n < 8) : (w.alloc grayC).cell? ⟨g, n, none⟩ = some (.string ⟨(grayL n).toArray⟩) := by
  subst hg
  rw [cell_of_row _ _ n _ _ _ (heap_alloc_new w grayC)]
  match n, hn with
  | 0, _ => rfl
  | 1, _ => rfl
  | 2, _ => rfl
  | 3, _ => rfl
  | 4, _ => rfl
  | 5, _ => rfl
  | 6, _ => rfl
  | 7, _ => rfl

set_option maxHeartbeats 4000000 in
theorem fastEnd_any (h p : ByteArray) (n : Nat) (w : World) (hD : w.cell? ⟨5, 1, none⟩ = some (.int .u8 1)) (hle : h.size ≤ p.size) (hp1 : 1 ≤ p.size) (hp : p.size ≤ 900) (hrow : rowB p.data.toList = true) (hn : n ≤ 1000) :
    Calls Tryz.prog 38 #[.string h, .string p, .int .i64 n] w fun e w' => e = .returned (.string ⟨(fastL h.data.toList p.data.toList n).toArray⟩) ∧ Below w.heap.size w w' := by
  have hhl : h.data.toList.length = h.size := by simp
  have hpl : p.data.toList.length = p.size := by simp
  have hm8 : (p.size - h.size) % 8 < 8 := Nat.mod_lt _ (by omega)
  have hgc := gray_cell w w.heap.size ((p.size - h.size) % 8) rfl hm8
  have hgr := gray_row ((p.size - h.size) % 8) hm8
  have hbA : Below w.heap.size w (w.alloc grayC) := (Below.refl _ _).alloc (Nat.le_refl _) _
  have hDA := cell_kept hbA hD
  unfold fastL fixL tailL lastB
  rw [hhl, hpl]
  have hcl := mk_list (grayL ((p.size - h.size) % 8))
  generalize grayL ((p.size - h.size) % 8) = gl at *
  obtain ⟨C, hC⟩ : ∃ C, C = ByteArray.mk gl.toArray := ⟨_, rfl⟩
  rw [← hC] at hgc hcl
  have hCs : C.size = 4 := by rw [ba_size hcl, hgr.2]
  obtain ⟨Y, hY⟩ : ∃ Y, Y = p ++ C := ⟨_, rfl⟩
  have hYl : Y.data.toList = p.data.toList ++ gl := by rw [hY, ba_cat, hcl]
  have hYs : Y.size = p.size + 4 := by rw [ba_size hYl, List.length_append, hgr.2, hpl]
  have hYr : rowB Y.data.toList = true := by rw [hYl, rowB_append, hrow, hgr.1]; rfl
  have hso := fun W hW => Ww.sumOf_any (endK n) Y W hW (endK_le n) (by omega) hYr
  rw [hYl] at hso
  rw [show bitsHead (sumV (endK n) (p.data.toList ++ gl)) (kS (endK n)) (kS (endK n)) = sumL (endK n) (p.data.toList ++ gl) from rfl] at hso
  have hsl := mk_list (sumL (endK n) (p.data.toList ++ gl))
  have hsn := sumL_len (endK n) (p.data.toList ++ gl)
  generalize sumL (endK n) (p.data.toList ++ gl) = sl at *
  generalize ByteArray.mk sl.toArray = S at *
  obtain ⟨Z, hZ⟩ : ∃ Z, Z = C ++ S := ⟨_, rfl⟩
  have hZl : Z.data.toList = gl ++ sl := by rw [hZ, ba_cat, hcl, hsl]
  have hk21 := (kinds_ok (endK n) (endK_le n)).2.1
  have hSs : S.size ≤ 21 := by rw [ba_size hsl, hsn]; exact hk21
  have hZs : Z.size = (gl ++ sl).length := ba_size hZl
  have hfx := fun W => fixBits_any Z (p.data.toList.getD (p.size - 1) 0) W (by rw [hZs, List.length_append, hgr.2, hsn]; omega)
  rw [hZl, hZs] at hfx
  have hpz : p.size - 1 < p.size := by clear hYs hCs hZs; omega
  have hpi : p[p.size - 1] = p.data.toList.getD (p.size - 1) 0 := at_getD p _ hpz
  obtain ⟨q, hq⟩ : ∃ q, q = (p.size - h.size) % 8 := ⟨_, rfl⟩
  rw [← hq] at hgc hm8
  have hqi : ((p.size : Int) - (h.size : Int)).tmod 8 = (q : Int) := by
    have e : (p.size : Int) - (h.size : Int) = ((p.size - h.size : Nat) : Int) := by omega
    rw [e, hq]
    rw [Int.tmod_eq_emod_of_nonneg (by omega)]
    omega
  have hq8 : (q : Int) < 8 := by omega
  have HSO := Hid.mk hso
  have HFX := Hid.mk hfx
  have HYE := Hid.mk hY
  have HZE := Hid.mk hZ
  have HDA := Hid.mk hDA
  have hCm : C.size ≤ 4 := by omega
  have hpe : (1 : Int) ≤ (p.size : Int) := by omega
  have hlei : (h.size : Int) ≤ (p.size : Int) := by omega
  unfold grayC at hgc hDA hbA HDA
  have hek : (endK n : Int) = if (16 : Int) < (n : Int) then 2 else 1 := by unfold endK; split <;> split <;> omega
  generalize p.data.toList.getD (p.size - 1) 0 = lb at *
  clear hhl hpl hgr hcl hCs hYl hYs hYr hso hsl hsn hZl hZs hfx hDA hq hC hY hZ hrow
  by_cases h16 : (16 : Int) < (n : Int)
  · rw [if_pos h16] at hek
    have hs2 := HSO.out
    simp only [hek, HYE.out] at hs2
    have HS2 := Hid.mk hs2
    have hf2 := HFX.out
    simp only [HZE.out] at hf2
    have HF2 := Hid.mk hf2
    clear hek hs2 hf2
    go_enter Tryz.func38, Tryz.ntmps38
    set_option maxRecDepth 100000 in
    go_wp2_with fail
    obtain ⟨w1, hw1⟩ : ∃ w1, w1 = w.alloc grayC := ⟨_, rfl⟩
    unfold grayC at hw1
    rw [← hw1] at hbA HDA ⊢
    clear hw1 hgc
    refine wp_region_quiet_below (by kernel_rfl) (by kernel_rfl) ?_
    set_option maxRecDepth 100000 in
    repeat (go_big_quiet_step (first
      | (go_at_call 36; exact Calls.regrown_of (HS2.out _ (cell_regrown HDA.out _ _)))
      | (go_at_call 75; exact Calls.regrown_of (HF2.out _))))
    refine wpQuiet_nil ?_
    intro _ hw'
    obtain ⟨⟨dq, osq⟩, hw''⟩ := hw'
    subst hw''
    have hbq := bl2 hbA (below_regrown w1 dq osq)
    go_wp2_with fail
    go_ret
    exact ⟨rfl, hbq⟩
  · rw [if_neg h16] at hek
    have hs2 := HSO.out
    simp only [hek, HYE.out] at hs2
    have HS2 := Hid.mk hs2
    have hf2 := HFX.out
    simp only [HZE.out] at hf2
    have HF2 := Hid.mk hf2
    clear hek hs2 hf2
    go_enter Tryz.func38, Tryz.ntmps38
    set_option maxRecDepth 100000 in
    go_wp2_with fail
    obtain ⟨w1, hw1⟩ : ∃ w1, w1 = w.alloc grayC := ⟨_, rfl⟩
    unfold grayC at hw1
    rw [← hw1] at hbA HDA ⊢
    clear hw1 hgc
    refine wp_region_quiet_below (by kernel_rfl) (by kernel_rfl) ?_
    set_option maxRecDepth 100000 in
    repeat (go_big_quiet_step (first
      | (go_at_call 36; exact Calls.regrown_of (HS2.out _ (cell_regrown HDA.out _ _)))
      | (go_at_call 75; exact Calls.regrown_of (HF2.out _))))
    refine wpQuiet_nil ?_
    intro _ hw'
    obtain ⟨⟨dq, osq⟩, hw''⟩ := hw'
    subst hw''
    have hbq := bl2 hbA (below_regrown w1 dq osq)
    go_wp2_with fail
    go_ret
    exact ⟨rfl, hbq⟩
end Bw
end Go.Proofs.YthdhhmflfdbkhaaGreatDoor
