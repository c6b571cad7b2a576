/- What the document's own LongestOf answers of a right kind. -/
import Derived.Test.YtikfdhhcicgppaaDoorRefHead
import Derived.Test.YtikfdhhcicgppaaDoorFrLong
namespace Go.Proofs.YtikfdhhcicgppaaDoor
open Go.ChangeShapes Go.WideShapes Go.ChangeAt Go.RowKit
namespace Bw
open Bm Cm

theorem ret_intL {a b : Int} (h : a = b) : Ending.returned (.int .i64 a) = .returned (.int .i64 b) := by rw [h]
set_option maxHeartbeats 1000000 in
theorem most1_any (k : Nat) (w : World) (h : 1 ≤ k) (hk : k ≤ 1000) :
    Calls Tryd.prog 31 #[.int .i64 k] w fun e w' => e = .returned (.int .i64 (mostN k : Nat)) ∧ w' = w := by
  have HQ := Hid.mk (quo4 k h)
  have hk1 : (1 : Int) ≤ (k : Int) := by omega
  have hk2 : (k : Int) ≤ 1000 := by omega
  clear h hk
  go_enter Tryd.func31, Tryd.ntmps31
  go_wp2_with fail
  go_ret
  refine ⟨?_, rfl⟩
  unfold mostN
  rw [← HQ.out]
  rfl

set_option maxHeartbeats 8000000 in
set_option maxRecDepth 100000 in
theorem longestOf_any (lo fa : Bool) (n : Nat) (w : World) (hD : w.cell? ⟨5, 1, none⟩ = some (.int .u8 1)) (hn : n ≤ 64) (hE : frE (frZ lo fa n) = 0) :
    Calls Tryd.prog 23 #[.bool lo, .bool fa, .int .i64 n] w fun e w' => e = .returned (.int .i64 (longN lo fa n)) ∧ Below w.heap.size w w' := by
  obtain ⟨i0, hi, hz0, hz1, hz2⟩ := info_parts info_u8
  have hdl : (frZ lo fa n).dt.length = n := by simp [frZ]
  have a2 := fun (a : Option Addr) (cap : Nat) W hW hB => headOf_any (frZ lo fa n) a n cap W hW hE hB
  have hHl := mk_list (headL (frZ lo fa n))
  have hHn := headL_le (frZ lo fa n) (by omega)
  unfold longN
  generalize ByteArray.mk (headL (frZ lo fa n)).toArray = H at *
  have hHs : H.size = (headL (frZ lo fa n)).length := ba_size hHl
  rw [← hHs]
  have a4 := fun W => most1_any (H.size + 15) W (by omega) (by omega)
  have a5 := fun W => most1_any H.size W (by omega) (by omega)
  have e15 : ((H.size + 15 : Nat) : Int) = (H.size : Int) + 15 := by omega
  rw [e15] at a4
  have m4 : mostN (H.size + 15) = H.size + 15 + (H.size + 15 - 1) / 4 := rfl
  have m5 : mostN H.size = H.size + (H.size - 1) / 4 := rfl
  have b4 : mostN (H.size + 15) ≤ 2000 := by rw [m4]; omega
  have b5 : mostN H.size ≤ 2000 := by rw [m5]; omega
  generalize mostN (H.size + 15) = M4 at *
  generalize mostN H.size = M5 at *
  have hHm : (H.size : Int) ≤ 553 := by omega
  have hze : ∀ a cap, frameV (frZ lo fa n).id (frZ lo fa n).lo (frZ lo fa n).fa (frZ lo fa n).re (frZ lo fa n).sz a n cap = frameV 0 lo fa false 0 a n cap := fun _ _ => rfl
  simp only [hze] at a2
  have hdt : (frZ lo fa n).dt = List.replicate n 0 := rfl
  rw [hdt] at a2
  have HA2 := Hid.mk a2
  have HA4 := Hid.mk a4
  have HA5 := Hid.mk a5
  have HD := Hid.mk hD
  have hn64 : (n : Int) ≤ 64 := by omega
  unfold frameV at HA2
  have zero_cells : cellsOf (List.replicate n (0 : UInt8)) = List.replicate n (Value.int .u8 0) := by simp [cellsOf]
  have HZC := Hid.mk zero_cells
  clear a2 a4 a5 hD hE hdl hHl hHn hHs e15 m4 m5 hze hdt zero_cells
  cases fa
  · simp only [Bool.false_eq_true, if_false]
    go_enter Tryd.func23, Tryd.ntmps23
    go_wp2_with (at_make; refine wpList_make_full _ rfl (.tmp 12) (.tmp 12) 56 rfl w.heap.size 5 i0 (.int .u8 0) 1 Tryd.underlying56 hi hz0 hz1 .i64 .i64 _ _ n rfl rfl (by omega) (by omega) (by rw [hz2]; omega) (by unfold maxLen; omega) (Nat.le_refl _) ?_; intro w2 hown hgrow)
    have hown0 : w2.ownsRow w.heap.size 5 1 (.slice (some ⟨w.heap.size, 0, none⟩) n n) n (cellsOf (List.replicate n (0 : UInt8))) := by
      rw [HZC.out, ← toList_madeCells_one]
      rw [Nat.mul_one] at hown
      exact hown
    have hb2 : Below w.heap.size w w2 := Below.grown (Below.refl _ _) hgrow (Nat.le_refl _) (fun q hq => by cases hq)
    obtain ⟨av, cp, hv, hby, -⟩ := isBytes_ownP hown0
    have hv1 : av = some ⟨w.heap.size, 0, none⟩ ∧ cp = n := by
      simp only [Value.slice.injEq] at hv
      exact ⟨hv.1.symm, hv.2.2.symm⟩
    obtain ⟨rfl, rfl⟩ := hv1
    have HB2 := Hid.mk hb2
    have HY2 := Hid.mk hby
    clear hown hown0 hgrow hb2 hv hby
    go_wp2_with fail
    refine (HA2.out _ _ _ (cell_kept HB2.out HD.out) HY2.out).mono ?_
    rintro e w4 ⟨rfl, hb4⟩
    have HB4 := Hid.mk (bl2 HB2.out hb4)
    clear hb4 HB2 HY2 HA2
    go_wp2_with fail
    refine (HA4.out _).mono ?_
    rintro e w5 ⟨rfl, hw5⟩
    subst hw5
    go_wp2_with fail
    go_ret
    exact ⟨by congr 2, HB4.out⟩
  · simp only [if_true]
    by_cases h16 : 16 < n
    · rw [if_pos h16]
      have h16' : (16 : Int) < (n : Int) := by omega
      go_enter Tryd.func23, Tryd.ntmps23
      go_wp2_with (at_make; refine wpList_make_full _ rfl (.tmp 12) (.tmp 12) 56 rfl w.heap.size 5 i0 (.int .u8 0) 1 Tryd.underlying56 hi hz0 hz1 .i64 .i64 _ _ n rfl rfl (by omega) (by omega) (by rw [hz2]; omega) (by unfold maxLen; omega) (Nat.le_refl _) ?_; intro w2 hown hgrow)
      have hown0 : w2.ownsRow w.heap.size 5 1 (.slice (some ⟨w.heap.size, 0, none⟩) n n) n (cellsOf (List.replicate n (0 : UInt8))) := by
        rw [HZC.out, ← toList_madeCells_one]
        rw [Nat.mul_one] at hown
        exact hown
      have hb2 : Below w.heap.size w w2 := Below.grown (Below.refl _ _) hgrow (Nat.le_refl _) (fun q hq => by cases hq)
      obtain ⟨av, cp, hv, hby, -⟩ := isBytes_ownP hown0
      have hv1 : av = some ⟨w.heap.size, 0, none⟩ ∧ cp = n := by
        simp only [Value.slice.injEq] at hv
        exact ⟨hv.1.symm, hv.2.2.symm⟩
      obtain ⟨rfl, rfl⟩ := hv1
      have HB2 := Hid.mk hb2
      have HY2 := Hid.mk hby
      clear hown hown0 hgrow hb2 hv hby
      go_wp2_with fail
      refine (HA2.out _ _ _ (cell_kept HB2.out HD.out) HY2.out).mono ?_
      rintro e w4 ⟨rfl, hb4⟩
      have HB4 := Hid.mk (bl2 HB2.out hb4)
      clear hb4 HB2 HY2 HA2
      go_wp2_with fail
      refine (HA5.out _).mono ?_
      rintro e w5 ⟨rfl, hw5⟩
      subst hw5
      go_wp2_with fail
      go_ret
      exact ⟨ret_intL (by omega), HB4.out⟩
    · rw [if_neg h16]
      have h16' : (n : Int) ≤ 16 := by omega
      go_enter Tryd.func23, Tryd.ntmps23
      go_wp2_with (at_make; refine wpList_make_full _ rfl (.tmp 12) (.tmp 12) 56 rfl w.heap.size 5 i0 (.int .u8 0) 1 Tryd.underlying56 hi hz0 hz1 .i64 .i64 _ _ n rfl rfl (by omega) (by omega) (by rw [hz2]; omega) (by unfold maxLen; omega) (Nat.le_refl _) ?_; intro w2 hown hgrow)
      have hown0 : w2.ownsRow w.heap.size 5 1 (.slice (some ⟨w.heap.size, 0, none⟩) n n) n (cellsOf (List.replicate n (0 : UInt8))) := by
        rw [HZC.out, ← toList_madeCells_one]
        rw [Nat.mul_one] at hown
        exact hown
      have hb2 : Below w.heap.size w w2 := Below.grown (Below.refl _ _) hgrow (Nat.le_refl _) (fun q hq => by cases hq)
      obtain ⟨av, cp, hv, hby, -⟩ := isBytes_ownP hown0
      have hv1 : av = some ⟨w.heap.size, 0, none⟩ ∧ cp = n := by
        simp only [Value.slice.injEq] at hv
        exact ⟨hv.1.symm, hv.2.2.symm⟩
      obtain ⟨rfl, rfl⟩ := hv1
      have HB2 := Hid.mk hb2
      have HY2 := Hid.mk hby
      clear hown hown0 hgrow hb2 hv hby
      go_wp2_with fail
      refine (HA2.out _ _ _ (cell_kept HB2.out HD.out) HY2.out).mono ?_
      rintro e w4 ⟨rfl, hb4⟩
      have HB4 := Hid.mk (bl2 HB2.out hb4)
      clear hb4 HB2 HY2 HA2
      go_wp2_with fail
      refine (HA5.out _).mono ?_
      rintro e w5 ⟨rfl, hw5⟩
      subst hw5
      go_wp2_with fail
      go_ret
      exact ⟨ret_intL (by omega), HB4.out⟩
end Bw
end Go.Proofs.YtikfdhhcicgppaaDoor
