/- What slices.Index and slices.Contains answer of numbers. -/
import Derived.Test.YtlnkhlifkooohaaGreatDoorBase8
import Derived.Test.YtlnkhlifkooohaaGreatDoorWireIdx
namespace Go.Proofs.YtlnkhlifkooohaaGreatDoor
open Go.ChangeShapes Go.WideShapes Go.ChangeAt Go.RowKit
namespace Bw
open Bm

/-- these texts lie in block g, from off on -/
def StrsAt (w : World) (g off : Nat) (rows : List (List UInt8)) : Prop := ∀ i, i < rows.length → w.cell? ⟨g, off + i, none⟩ = some (.string ⟨(rows.getD i []).toArray⟩)
/-- these numbers lie in block g, from off on -/
def NumsAt (w : World) (g off : Nat) (xs : List Int) : Prop := ∀ i, i < xs.length → w.cell? ⟨g, off + i, none⟩ = some (.int .i64 (xs.getD i 0))
theorem txt_eq (a b : List UInt8) : ((ByteArray.mk a.toArray).toList == (ByteArray.mk b.toArray).toList) = decide (a = b) := by
  rw [ByteArray.toList_eq, ByteArray.toList_eq]
  by_cases h : a = b
  · subst h; simp
  · rw [decide_eq_false h]; simpa using h

set_option maxHeartbeats 1000000 in
theorem indexN (g off n c : Nat) (xs : List Int) (v : Int) (w : World) (hn : xs.length = n) (hm : n ≤ 1000) (hx : NumsAt w g off xs) :
    Calls Tryz.prog 89 #[.slice (some ⟨g, off, none⟩) n c, .int .i64 v] w fun e w' => e = .returned (.int .i64 (idxG xs v)) ∧ w' = w := by
  have HX := Hid.mk hx
  have HN := Hid.mk hn
  clear hx hn
  go_enter Tryz.func89, Tryz.ntmps89
  go_wp2_with fail
  go_loopw [8] (fun i wr => ∃ j : Nat, j ≤ n ∧ i = .int .i64 j ∧ Hid (v ∉ xs.take j) ∧ wr = w) (fun i _ => n - (intOf i).toNat)
  case atStart => exact ⟨0, Nat.zero_le _, rfl, Hid.mk (by simp), rfl⟩
  case round =>
    obtain ⟨j, hj, rfl, HV, hwr⟩ := hrel
    subst hwr
    by_cases hlt : j < n
    · have hc := HX.out j (by rw [HN.out]; exact hlt)
      have hlt' : (j : Int) < (n : Int) := by omega
      have hjl : j < xs.length := by rw [HN.out]; exact hlt
      by_cases he : v = xs.getD j 0
      · have hb : (v == xs.getD j 0) = true := by rw [← he]; simp
        have HRES := Hid.mk (idxG_hit xs v 0 j hjl HV.out he)
        generalize xs.getD j 0 = y at *
        clear hjl he
        go_wp2_with fail
        go_ret
        exact ⟨by rw [HRES.out]; rfl, rfl⟩
      · have hb : (v == xs.getD j 0) = false := by simpa using he
        have HNX := Hid.mk (idxG_next xs v 0 j hjl HV.out he)
        generalize xs.getD j 0 = y at *
        clear hjl he
        go_wp2_with fail
        go_roundw
        case rel => exact ⟨j + 1, by omega, by go_num, HNX, by first | rfl | trivial⟩
        case measure => simp [intOf]; omega
    · have e : j = n := by omega
      subst e
      have HRES := Hid.mk (idxG_none xs v (by
        have := HV.out
        rwa [← HN.out, List.take_length] at this))
      go_wp2_with fail
      go_ret
      exact ⟨by rw [HRES.out]; rfl, rfl⟩
set_option maxHeartbeats 1000000 in
theorem containsN (g off n c : Nat) (xs : List Int) (v : Int) (w : World) (hn : xs.length = n) (hm : n ≤ 1000) (hx : NumsAt w g off xs) :
    Calls Tryz.prog 43 #[.slice (some ⟨g, off, none⟩) n c, .int .i64 v] w fun e w' => e = .returned (.bool (decide (v ∈ xs))) ∧ w' = w := by
  have h1 := indexN g off n c xs v w hn hm hx
  have he : decide (0 ≤ idxG xs v) = decide (v ∈ xs) := by rw [decide_eq_decide]; exact idxG_pos xs v
  have HE := Hid.mk he
  generalize idxG xs v = q at *
  clear he hn hx
  go_enter Tryz.func43, Tryz.ntmps43
  go_wp2_with fail
  refine h1.mono ?_
  rintro e w1 ⟨rfl, hw1⟩
  subst hw1
  go_wp2_with fail
  go_ret
  exact ⟨by rw [← HE.out]; rfl, rfl⟩
end Bw
end Go.Proofs.YtlnkhlifkooohaaGreatDoor
