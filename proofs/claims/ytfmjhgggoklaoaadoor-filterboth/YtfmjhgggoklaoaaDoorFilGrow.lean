/- What slices.Grow answers of no filters yet. -/
import Derived.Test.YtfmjhgggoklaoaaDoorFilLeastP
import Derived.Lib.AppendZeros
namespace Go.Proofs.YtfmjhgggoklaoaaDoor
open Go.ChangeShapes Go.WideShapes Go.ChangeAt Go.RowKit
namespace Bw
set_option maxHeartbeats 4000000 in
set_option maxRecDepth 100000 in
theorem grow_zero (w : World) :
    Calls Tryd.prog 38 #[.slice none 0 0, .int .i64 0] w fun e w' => e = .returned (.slice none 0 0) ∧ w' = w := by
  go_enter Tryd.func38, Tryd.ntmps38
  go_wp2_with fail
  go_ret
  exact ⟨rfl, rfl⟩
set_option maxHeartbeats 4000000 in
set_option maxRecDepth 100000 in
theorem grow_pos (n : Nat) (w : World) (h0 : 0 < n) (h48 : n * 24 ≤ 281474976710656) :
    Calls Tryd.prog 38 #[.slice none 0 0, .int .i64 n] w fun e w' => ∃ C cur, e = .returned (.slice (some ⟨w.heap.size, 0, none⟩) 0 C) ∧
      w'.heap[w.heap.size]? = some (.cells cur 34 (0, 0)) ∧ cur.size = C * 3 ∧ n ≤ C ∧ C ≤ maxLen ∧ Below w.heap.size w w' := by
  obtain ⟨i0, hi, hz0, hz1, hz2⟩ := info_parts info_fil
  have happ := Lib.run_append_nil_zeros (P := Tryd.prog) w 22 3 22 34 i0 _ .i64 .i64 Tryd.underlying22 Tryd.underlying3 hi hz0 n h0 (by omega) (by omega) (by rw [hz2]; omega)
  have hge := grownCap_ge w n 0 34
  have hle := grownCap_le_maxLen w n 0 34 (by unfold maxLen; omega)
  generalize grownCap w n 0 34 = C at *
  obtain ⟨Z, hZ⟩ : ∃ Z, Z = (Builtin.zeroCells (Value.agg #[.int .i64 0, .int .i64 0, .bool false]).cells n ++ Builtin.zeroCells (Value.agg #[.int .i64 0, .int .i64 0, .bool false]).cells (C - n)) := ⟨_, rfl⟩
  rw [← hZ] at happ
  have hZs : Z.size = C * 3 := by rw [hZ]; simp [size_zeroCells, Value.cells]; omega
  have hs0 : ∀ W, (Instr.slice 22 (.slice (some ⟨w.heap.size, 0, none⟩) n C) none (some (.int .i64 0)) none).run Tryd.prog W = .ok (.slice (some ⟨w.heap.size, 0, none⟩) 0 C) W := fun W => slice_h ⟨w.heap.size, 0, none⟩ n C 0 (Nat.zero_le _) W
  have HH := Hid.mk (heap_alloc_new w.drew (.cells Z 34))
  have HB : Hid (Below w.heap.size w (w.drew.alloc (.cells Z 34))) := Hid.mk ((show Below w.heap.size w w.drew from ⟨rfl, rfl, rfl, Nat.le_refl _, fun _ _ => rfl⟩).alloc (Nat.le_refl _) _)
  have hn' : (0 : Int) < (n : Int) := by omega
  have hn2 : (n : Int) ≤ 281474976710656 := by omega
  have HAP := Hid.mk happ
  clear happ hZ
  go_enter Tryd.func38, Tryd.ntmps38
  go_wp2_with (at_builtin; refine Lib.wpList_append_run _ rfl _ _ _ _ rfl _ _ rfl rfl _ _ HAP.out ?_)
  go_ret
  exact ⟨C, Z, rfl, HH.out, hZs, hge, hle, HB.out⟩
end Bw
end Go.Proofs.YtfmjhgggoklaoaaDoor
