/- What the document's own CheckRow answers of any text. -/
import Derived.Test.YtdhmjbnpdmneiabDoorBase8
import Derived.Test.YtdhmjbnpdmneiabDoorShelfCnt
namespace Go.Proofs.YtdhmjbnpdmneiabDoor
open Go.ChangeShapes Go.WideShapes Go.ChangeAt Go.RowKit
namespace Bw
open Bm

theorem count_row (l : List UInt8) : Lib.countByte l 48 + Lib.countByte l 49 ≤ l.length ∧ (Lib.countByte l 48 + Lib.countByte l 49 = l.length ↔ rowB l = true) := by
  unfold Lib.countByte rowB
  induction l with
  | nil => simp
  | cons c l ih =>
    simp only [List.count_cons, List.length_cons, List.all_cons, Bool.and_eq_true]
    obtain ⟨h1, h2⟩ := ih
    by_cases hc : bit c = true
    · have e : (if (c == 48) = true then 1 else 0) + (if (c == 49) = true then 1 else 0) = 1 := by
        rcases (bit_iff c).1 hc with h | h
        · have : c = 48 := UInt8.toNat_inj.1 (by show c.toNat = 48; omega)
          subst this; rfl
        · have : c = 49 := UInt8.toNat_inj.1 (by show c.toNat = 49; omega)
          subst this; rfl
      refine ⟨by omega, ?_⟩
      rw [← h2]
      exact ⟨fun h => ⟨hc, by omega⟩, fun h => by omega⟩
    · have e : (if (c == 48) = true then 1 else 0) + (if (c == 49) = true then 1 else 0) = 0 := by
        unfold bit at hc
        simp only [Bool.or_eq_true, not_or] at hc
        rw [if_neg hc.1, if_neg hc.2]
      exact ⟨by omega, fun h => by omega, fun h => absurd h.1 hc⟩

set_option maxHeartbeats 1000000 in
theorem checkRow_any (s : ByteArray) (w : World) (hs : s.size ≤ maxLen) :
    Calls Tryd.prog 12 #[.string s] w fun e w' => e = .returned (.int .i64 (checkE s.data.toList)) ∧ w' = w := by
  obtain ⟨h1, h2⟩ := count_row s.data.toList
  have hl : s.data.toList.length = s.size := by simp
  rw [hl] at h1 h2
  unfold maxLen at hs
  have c1 := fun W => Tryd.strings_Count_one s 48 W
  have c2 := fun W => Tryd.strings_Count_one s 49 W
  unfold checkE
  rw [hl]
  generalize Lib.countByte s.data.toList 48 = a at *
  generalize Lib.countByte s.data.toList 49 = b at *
  by_cases h0 : 1000 < s.size
  · rw [if_pos h0]
    clear c1 c2 h2 hl
    go_enter Tryd.func12, Tryd.ntmps12
    go_wp2_with fail
    go_ret
    exact ⟨rfl, rfl⟩
  · rw [if_neg h0]
    by_cases h3 : a + b = s.size
    · rw [if_pos (h2.1 h3)]
      have h3' : (((a : Int) + (b : Int)) == (s.size : Int)) = true := by simp; omega
      have HL := Hid.mk hl
      clear h2 hl h3
      go_enter Tryd.func12, Tryd.ntmps12
      go_wp2_with fail
      refine (c1 _).mono ?_
      rintro e w1 ⟨rfl, rfl⟩
      go_wp2_with fail
      refine (c2 _).mono ?_
      rintro e w1 ⟨rfl, rfl⟩
      clear c1 c2
      go_wp2_with fail
      go_ret
      exact ⟨rfl, rfl⟩
    · rw [if_neg (fun h => h3 (h2.2 h))]
      have h3' : (((a : Int) + (b : Int)) == (s.size : Int)) = false := by simp; omega
      clear h2 hl h3
      go_enter Tryd.func12, Tryd.ntmps12
      go_wp2_with fail
      refine (c1 _).mono ?_
      rintro e w1 ⟨rfl, rfl⟩
      go_wp2_with fail
      refine (c2 _).mono ?_
      rintro e w1 ⟨rfl, rfl⟩
      clear c1 c2
      go_wp2_with fail
      go_ret
      exact ⟨rfl, rfl⟩
end Bw
end Go.Proofs.YtdhmjbnpdmneiabDoor
