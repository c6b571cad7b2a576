/- What check.Sum answers, errors too, where the table of kinds lies as its initialiser lays it. -/
import Derived.Test.YtopoogdoepdedaaDoorBitsCheck
import Derived.Test.YtopoogdoepdedaaDoorCheckOf
namespace Go.Proofs.YtopoogdoepdedaaDoor
open Go.ChangeShapes Go.WideShapes Go.ChangeAt Go.RowKit
namespace Bw
open Bm Cm

/-- the table of kinds, cell by cell -/
def RulesAt (w : World) : Prop := ∀ k, k ≤ 4 → w.cell? ⟨0, k * 4, none⟩ = some (.int .i64 (kS k)) ∧ w.cell? ⟨0, k * 4 + 1, none⟩ = some (.int .i64 (kP k)) ∧ w.cell? ⟨0, k * 4 + 2, none⟩ = some (.int .i64 (kF k)) ∧ w.cell? ⟨0, k * 4 + 3, none⟩ = some (.int .i64 (kE k))
theorem RulesAt.kept {w w' : World} (h : RulesAt w) (hb : Below w.heap.size w w') : RulesAt w' := fun k hk =>
  ⟨cell_kept hb (h k hk).1, cell_kept hb (h k hk).2.1, cell_kept hb (h k hk).2.2.1, cell_kept hb (h k hk).2.2.2⟩

set_option maxHeartbeats 1000000 in
theorem isKind_any (k : Int) (w : World) :
    Calls Tryd.prog 40 #[.int .i64 k] w fun e w' => e = .returned (.bool (decide (0 ≤ k) && decide (k < 5))) ∧ w' = w := by
  by_cases h : 0 ≤ k
  · have h0 : decide (k ≥ 0) = true := by simpa using h
    have h0' : decide (0 ≤ k) = true := by simpa using h
    go_enter Tryd.func40, Tryd.ntmps40
    go_wp2_with fail
    go_ret
    exact ⟨by first | rfl | (rw [h0']; rfl), rfl⟩
  · have h0 : decide (k ≥ 0) = false := by simpa using h
    have h0' : decide (0 ≤ k) = false := by simpa using h
    go_enter Tryd.func40, Tryd.ntmps40
    go_wp2_with fail
    go_ret
    exact ⟨by first | rfl | (rw [h0']; rfl), rfl⟩
theorem isKind_yes (k : Nat) (w : World) (hk : k ≤ 4) : Calls Tryd.prog 40 #[.int .i64 k] w fun e w' => e = .returned (.bool true) ∧ w' = w :=
  (isKind_any k w).mono fun e w' ⟨h1, h2⟩ => ⟨by
    have a : decide ((0 : Int) ≤ (k : Int)) = true := by simp
    have b : decide ((k : Int) < 5) = true := by simp; omega
    rw [h1, a, b]; rfl, h2⟩
theorem isKind_no (k : Int) (w : World) (hk : k < 0 ∨ 4 < k) : Calls Tryd.prog 40 #[.int .i64 k] w fun e w' => e = .returned (.bool false) ∧ w' = w :=
  (isKind_any k w).mono fun e w' ⟨h1, h2⟩ => ⟨by
    have : (decide ((0 : Int) ≤ k) && decide (k < 5)) = false := by
      rcases hk with h | h
      · have : decide ((0 : Int) ≤ k) = false := by simpa using h
        rw [this]; rfl
      · have : decide (k < 5) = false := by simp; omega
        rw [this]; simp
    rw [h1, this], h2⟩

set_option maxHeartbeats 2000000 in
theorem sum_bad (k : Int) (b : ByteArray) (w : World) (hb : b.size ≤ maxLen) (hc : checkE b.data.toList ≠ 0) :
    Calls Tryd.prog 25 #[.int .i64 k, .string b] w fun e w' => e = .returned (.tuple #[.string ⟨#[]⟩, .int .i64 (checkE b.data.toList)]) ∧ Below w.heap.size w w' := by
  have h1 := check_any b w hb
  have hne : (checkE b.data.toList != 0) = true := by simpa using hc
  generalize checkE b.data.toList = ce at *
  go_enter Tryd.func25, Tryd.ntmps25
  go_wp2_with fail
  refine h1.mono ?_
  rintro e w1 ⟨rfl, hb1⟩
  go_wp2_with fail
  go_ret2
  exact ⟨rfl, hb1⟩
set_option maxHeartbeats 2000000 in
theorem sum_who (k : Int) (b : ByteArray) (w : World) (hb : b.size ≤ maxLen) (hc : checkE b.data.toList = 0) (hk : k < 0 ∨ 4 < k) :
    Calls Tryd.prog 25 #[.int .i64 k, .string b] w fun e w' => e = .returned (.tuple #[.string ⟨#[]⟩, .int .i64 8]) ∧ Below w.heap.size w w' := by
  have h1 := check_any b w hb
  rw [hc] at h1
  have HK := Hid.mk hk
  clear hk hc
  go_enter Tryd.func25, Tryd.ntmps25
  go_wp2_with fail
  refine h1.mono ?_
  rintro e w1 ⟨rfl, hb1⟩
  clear h1
  go_wp2_with fail
  refine (isKind_no k w1 HK.out).mono ?_
  rintro e w2 ⟨rfl, hw2⟩
  subst hw2
  go_wp2_with fail
  go_ret2
  exact ⟨rfl, hb1⟩
set_option maxHeartbeats 2000000 in
theorem sum_ok (k : Nat) (b : ByteArray) (w : World) (hR : RulesAt w) (hc : checkE b.data.toList = 0) (hk : k ≤ 4) :
    Calls Tryd.prog 25 #[.int .i64 k, .string b] w fun e w' => e = .returned (.tuple #[.string ⟨(sumL k b.data.toList).toArray⟩, .int .i64 0]) ∧ Below w.heap.size w w' := by
  obtain ⟨h1000, hrow⟩ := small_of_check hc
  have h1 := check_any b w (by unfold maxLen; omega)
  rw [hc] at h1
  obtain ⟨s8, s21, p1, hp, hf, he, _⟩ := kinds_ok k hk
  have h2 := fun W => sumR_any (kS k) (kP k) (kF k) (kE k) b W (by omega) s21 hp hf he h1000 hrow
  have H2 := Hid.mk h2
  have H3 := Hid.mk hR
  have hk' : (k : Int) < 5 := by omega
  clear hR hc hp hf he hrow h2
  go_enter Tryd.func25, Tryd.ntmps25
  go_wp2_with fail
  refine h1.mono ?_
  rintro e w1 ⟨rfl, hb1⟩
  clear h1
  obtain ⟨c0, c1, c2, c3⟩ := H3.out.kept hb1 k hk
  go_wp2_with fail
  refine (isKind_yes k w1 hk).mono ?_
  rintro e w2 ⟨rfl, hw2⟩
  subst hw2
  go_wp2_with fail
  refine (H2.out _).mono ?_
  rintro e w3 ⟨rfl, hb3⟩
  go_wp2_with fail
  go_ret2
  exact ⟨rfl, bl2 hb1 hb3⟩

end Bw
end Go.Proofs.YtopoogdoepdedaaDoor
