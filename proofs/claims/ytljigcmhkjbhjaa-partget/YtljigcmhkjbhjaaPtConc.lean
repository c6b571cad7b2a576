/- What slices.Concat answers of two rows of bytes. -/
import Derived.Test.YtljigcmhkjbhjaaPtPartsOf
import Derived.Lib.AppendZeros
namespace Go.Proofs.Ytljigcmhkjbhjaa
open Go.ChangeShapes Go.WideShapes Go.ChangeAt Go.RowKit
namespace Bw
open Bm
set_option linter.unusedVariables false
set_option maxHeartbeats 4000000 in
set_option maxRecDepth 100000 in
theorem growB_pos (n : Nat) (w : World) (h0 : 0 < n) (h48 : n ≤ 1000) :
    Calls Try.prog 41 #[.slice none 0 0, .int .i64 n] w fun e w' => ∃ v, e = .returned v ∧ w'.ownsRow w.heap.size 5 1 v 0 (cellsOf []) ∧ Below w.heap.size w w' := by
  obtain ⟨i0, hi, hz0, hz1, hz2⟩ := info_parts info_u8
  have happ := Lib.run_append_nil_zeros (P := Try.prog) w 22 3 22 5 i0 _ .i64 .i64 Try.underlying22 Try.underlying3 hi hz0 n h0 (by omega) (by omega) (by rw [hz2]; omega)
  have hge := grownCap_ge w n 0 5
  have hle := grownCap_le_maxLen w n 0 5 (by unfold maxLen; omega)
  generalize grownCap w n 0 5 = C at *
  obtain ⟨Z, hZ⟩ : ∃ Z, Z = (Builtin.zeroCells (Value.int .u8 0).cells n ++ Builtin.zeroCells (Value.int .u8 0).cells (C - n)) := ⟨_, rfl⟩
  rw [← hZ] at happ
  have hZs : Z.size = C * 1 := by rw [hZ]; simp [size_zeroCells, Value.cells]; omega
  have HH := Hid.mk (heap_alloc_new w.drew (.cells Z 5))
  have HB : Hid (Below w.heap.size w (w.drew.alloc (.cells Z 5))) := Hid.mk ((dwG w).alloc (Nat.le_refl _) _)
  have hn' : (0 : Int) < (n : Int) := by omega
  have hn2 : (n : Int) ≤ 1000 := by omega
  have HAP := Hid.mk happ
  have hC0 : ¬ C = 0 := by omega
  clear happ hZ
  go_enter Try.func41, Try.ntmps41
  go_wp2_with (at_builtin; refine Lib.wpList_append_run _ rfl _ _ _ _ rfl _ _ rfl rfl _ _ HAP.out ?_)
  go_ret
  exact ⟨_, rfl, ⟨rfl, .inr ⟨w.heap.size, C, Z, rfl, Nat.le_refl _, HH.out, Nat.zero_le _, hle, hZs, by simp [cellsOf]⟩⟩, HB.out⟩
set_option maxHeartbeats 8000000 in
set_option maxRecDepth 100000 in
theorem concatB (g : Nat) (x y : Addr) (n c m d : Nat) (la lb : List UInt8) (w : World) (h0 : w.cell? ⟨g, 0, none⟩ = some (.slice (some x) n c)) (h1 : w.cell? ⟨g, 1, none⟩ = some (.slice (some y) m d)) (hA : IsBytes w (some x) n c la) (hB : IsBytes w (some y) m d lb) (hn : n ≤ 300) (hm : m ≤ 300) (hn1 : 1 ≤ n) (hm1 : 1 ≤ m) :
    Calls Try.prog 24 #[.slice (some ⟨g, 0, none⟩) 2 2] w fun e w' => ∃ g' c', e = .returned (.slice (some ⟨g', 0, none⟩) (n + m) c') ∧ w.heap.size ≤ g' ∧ IsBytes w' (some ⟨g', 0, none⟩) (n + m) c' (la ++ lb) ∧ Below w.heap.size w w' := by
  obtain ⟨i0, hi, hz0, hz1, hz2⟩ := info_parts info_u8
  have HG := Hid.mk (growB_pos (n + m) w (by omega) (by omega))
  rw [show (((n + m : Nat)) : Int) = (n : Int) + (m : Int) by omega] at HG
  have H0 := Hid.mk h0
  have H1 := Hid.mk h1
  have HA := Hid.mk hA
  have HBb := Hid.mk hB
  have HCA : Hid ((cellsOf la).length = n * 1) := Hid.mk (by rw [cellsOf_length, hA.1, Nat.mul_one])
  have HCB : Hid ((cellsOf lb).length = m * 1) := Hid.mk (by rw [cellsOf_length, hB.1, Nat.mul_one])
  have hna : (n : Int) ≤ 300 := by omega
  have hnb : (m : Int) ≤ 300 := by omega
  clear h0 h1 hA hB
  go_enter Try.func24, Try.ntmps24
  go_wp2_with fail
  go_loopw [3, 11] (fun s i wr => wr = w ∧ ((i = .int .i64 0 ∧ s = .int .i64 0) ∨ (i = .int .i64 1 ∧ s = .int .i64 (n : Int)) ∨ (i = .int .i64 2 ∧ s = .int .i64 ((n : Int) + (m : Int))))) (fun _ i _ => 2 - (intOf i).toNat)
  case atStart => exact ⟨rfl, .inl ⟨rfl, rfl⟩⟩
  case round =>
    obtain ⟨hwr, ⟨rfl, rfl⟩ | ⟨rfl, rfl⟩ | ⟨rfl, rfl⟩⟩ := hrel
    · subst hwr
      have t0 := H0.out
      have t1 := H1.out
      go_wp2_with fail
      go_roundw
      case rel => exact ⟨trivial, .inr (.inl ⟨rfl, by simp⟩)⟩
      case measure => simp [intOf]
    · subst hwr
      have t0 := H0.out
      have t1 := H1.out
      go_wp2_with fail
      go_roundw
      case rel => exact ⟨trivial, .inr (.inr ⟨rfl, rfl⟩)⟩
      case measure => simp [intOf]
    · subst hwr
      go_wp2_with fail
      refine HG.out.mono ?_
      rintro e w1 ⟨v0, rfl, hown, hb1⟩
      have HR1 := Hid.mk hown
      have HB1 := Hid.mk hb1
      clear hown hb1
      go_wp2_with fail
      obtain ⟨wz, hwz⟩ : ∃ wz, wz = wr := ⟨_, rfl⟩
      rw [← hwz] at HA HBb H0 H1 HR1 HB1
      have HWZ := Hid.mk hwz
      clear hwz HG
      go_loopw [6, 27] (fun v i wr => Hid (Below wz.heap.size wz wr) ∧ ((i = .int .i64 0 ∧ Hid (wr.ownsRow wz.heap.size 5 1 v 0 (cellsOf []))) ∨ (i = .int .i64 1 ∧ Hid (wr.ownsRow wz.heap.size 5 1 v n (cellsOf la))) ∨ (i = .int .i64 2 ∧ Hid (wr.ownsRow wz.heap.size 5 1 v (n + m) (cellsOf (la ++ lb)))))) (fun _ i _ => 2 - (intOf i).toNat)
      case atStart => exact ⟨HB1, .inl ⟨rfl, HR1⟩⟩
      case round =>
        obtain ⟨HB, ⟨rfl, HR⟩ | ⟨rfl, HR⟩ | ⟨rfl, HR⟩⟩ := hrel
        · have t0 := cell_kept HB.out H0.out
          have t1 := cell_kept HB.out H1.out
          have HCC := Hid.mk (bytes_cells (isBytes_below HA.out HB.out))
          go_wp2_with (at_builtin; refine wpList_append_own _ rfl (.tmp 31) (.tmp 32) 22 rfl wz.heap.size 5 i0 (.int .u8 0) 1 1 Try.underlying22 hi hz0 hz1 hz2 rfl (by decide) _ _ _ rfl HR.out x n c (cellsOf la) rfl HCA.out HCC.out (one_cellP _) (by unfold maxLen; omega) (by omega) HB.out.size ?_; intro v3 w3 hown3 hgrow3 hnil3; rw [← cellsOf_append, List.nil_append, Nat.zero_add] at hown3; (have HR3 := Hid.mk hown3); (have HB3 := Hid.mk (Below.grown HB.out hgrow3 HB.out.size (fun q hq => (HR.out.lt q hq).1))); clear hown3 hgrow3 hnil3)
          go_roundw
          case rel => exact ⟨HB3, .inr (.inl ⟨rfl, HR3⟩)⟩
          case measure => simp [intOf]
        · have t0 := cell_kept HB.out H0.out
          have t1 := cell_kept HB.out H1.out
          have HCC := Hid.mk (bytes_cells (isBytes_below HBb.out HB.out))
          go_wp2_with (at_builtin; refine wpList_append_own _ rfl (.tmp 31) (.tmp 32) 22 rfl wz.heap.size 5 i0 (.int .u8 0) 1 1 Try.underlying22 hi hz0 hz1 hz2 rfl (by decide) _ _ _ rfl HR.out y m d (cellsOf lb) rfl HCB.out HCC.out (one_cellP _) (by unfold maxLen; omega) (by omega) HB.out.size ?_; intro v3 w3 hown3 hgrow3 hnil3; rw [← cellsOf_append] at hown3; (have HR3 := Hid.mk hown3); (have HB3 := Hid.mk (Below.grown HB.out hgrow3 HB.out.size (fun q hq => (HR.out.lt q hq).1))); clear hown3 hgrow3 hnil3)
          go_roundw
          case rel => exact ⟨HB3, .inr (.inr ⟨rfl, HR3⟩)⟩
          case measure => simp [intOf]
        · obtain ⟨g5, c5, rfl, hg5⟩ := own_fresh HR.out (by omega)
          have HF := Hid.mk (isBytes_ownG HR.out)
          have HG5 := Hid.mk hg5
          clear hg5
          go_wp2_with fail
          go_ret
          exact ⟨g5, c5, rfl, by rw [← HWZ.out]; exact HG5.out, HF.out, by rw [← HWZ.out]; exact HB.out⟩
end Bw
end Go.Proofs.Ytljigcmhkjbhjaa
