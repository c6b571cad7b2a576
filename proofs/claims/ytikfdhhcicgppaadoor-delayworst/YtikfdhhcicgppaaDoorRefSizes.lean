/- What slices.Index and slices.Contains answer of numbers, and what the document's own Sizes lays. -/
import Derived.Test.YtikfdhhcicgppaaDoorC9
namespace Go.Proofs.YtikfdhhcicgppaaDoor
open Go.ChangeShapes Go.WideShapes Go.ChangeAt Go.RowKit
namespace Bw
open Bm Cm

set_option maxHeartbeats 1000000 in
theorem index_any (g n c : Nat) (xs : List Int) (v : Int) (w : World) (hn : xs.length = n) (hm : n ≤ 1000) (hx : IntsAt w g xs) :
    Calls Tryd.prog 38 #[.slice (some ⟨g, 0, none⟩) n c, .int .i64 v] w fun e w' => e = .returned (.int .i64 (idxI xs v)) ∧ w' = w := by
  have HX := Hid.mk hx
  have HN := Hid.mk hn
  clear hx hn
  go_enter Tryd.func38, Tryd.ntmps38
  go_wp2_with fail
  go_loopw [8] (fun i wr => ∃ j : Nat, j ≤ n ∧ i = .int .i64 j ∧ Hid (v ∉ xs.take j) ∧ wr = w) (fun i _ => n - (intOf i).toNat)
  case atStart => exact ⟨0, Nat.zero_le _, rfl, Hid.mk (by simp), rfl⟩
  case round =>
    obtain ⟨j, hj, rfl, HV, hwr⟩ := hrel
    subst hwr
    by_cases hlt : j < n
    · have hc := HX.out j (by rw [HN.out]; exact hlt)
      have hlt' : (j : Int) < (n : Int) := by omega
      have hjl : j < xs.length := by rw [HN.out]; exact hlt
      by_cases he : v = xs.getD j 0
      · have hb : (v == xs.getD j 0) = true := by rw [← he]; simp
        have hres : idxI xs v = j := by
          have e1 : xs = xs.take j ++ xs.drop j := (List.take_append_drop j xs).symm
          have e2 : xs.drop j = v :: xs.drop (j + 1) := by rw [List.drop_eq_getElem_cons hjl, he]; simp [List.getD, hjl]
          have e3 := idxI_at (xs.take j) (xs.drop (j + 1)) v HV.out
          rw [← e2, ← e1, List.length_take] at e3
          omega
        have HRES := Hid.mk hres
        generalize xs.getD j 0 = y at *
        clear hres hjl he
        go_wp2_with fail
        go_ret
        exact ⟨by rw [HRES.out]; rfl, rfl⟩
      · have hb : (v == xs.getD j 0) = false := by simpa using he
        have hnext : v ∉ xs.take (j + 1) := by
          rw [List.take_succ_eq_append_getElem hjl, List.mem_append, List.mem_singleton]
          rintro (h | h)
          · exact HV.out h
          · exact he (by rw [h]; simp [List.getD, hjl])
        have HNX := Hid.mk hnext
        generalize xs.getD j 0 = y at *
        clear hnext hjl he
        go_wp2_with fail
        go_roundw
        case rel => exact ⟨j + 1, by omega, by go_num, HNX, by first | rfl | trivial⟩
        case measure => simp [intOf]; omega
    · have e : j = n := by omega
      subst e
      have hres : idxI xs v = -1 := idxI_none xs v (by
        have := HV.out
        rwa [← HN.out, List.take_length] at this)
      have HRES := Hid.mk hres
      clear hres
      go_wp2_with fail
      go_ret
      exact ⟨by rw [HRES.out]; rfl, rfl⟩

def sizesC : Obj := .cells #[.int .i64 0, .int .i64 1, .int .i64 2, .int .i64 3, .int .i64 4, .int .i64 5, .int .i64 6, .int .i64 7, .int .i64 8, .int .i64 12, .int .i64 16, .int .i64 20, .int .i64 24, .int .i64 32, .int .i64 48, .int .i64 64] 3
set_option maxHeartbeats 1000000 in
theorem sizes_any (w : World) :
    Calls Tryd.prog 39 #[] w fun e w' => e = .returned (.slice (some ⟨w.heap.size, 0, none⟩) 16 16) ∧ w' = w.alloc sizesC := by
  go_enter Tryd.func39, Tryd.ntmps39
  set_option maxRecDepth 100000 in
  go_wp2_with fail
  go_ret
  exact ⟨rfl, rfl⟩
theorem sizes_ints (w : World) : IntsAt (w.alloc sizesC) w.heap.size sizesI := by
  intro i hi
  rw [cell_of_row _ _ i _ _ _ (heap_alloc_new w sizesC)]
  have hi' : i < 16 := hi
  clear hi
  match i, hi' with
  | 0, _ => rfl
  | 1, _ => rfl
  | 2, _ => rfl
  | 3, _ => rfl
  | 4, _ => rfl
  | 5, _ => rfl
  | 6, _ => rfl
  | 7, _ => rfl
  | 8, _ => rfl
  | 9, _ => rfl
  | 10, _ => rfl
  | 11, _ => rfl
  | 12, _ => rfl
  | 13, _ => rfl
  | 14, _ => rfl
  | 15, _ => rfl
  | n + 16, h => exact absurd h (by omega)
theorem sizes_ints' (w : World) (g : Nat) (hg : g = w.heap.size) : IntsAt (w.alloc sizesC) g sizesI := by subst hg; exact sizes_ints w
theorem sizes_intsD (w : World) (g : Nat) (hg : g = w.heap.size) : IntsAt (w.alloc sizesC).drew g sizesI := sizes_ints' w g hg
end Bw
end Go.Proofs.YtikfdhhcicgppaaDoor
