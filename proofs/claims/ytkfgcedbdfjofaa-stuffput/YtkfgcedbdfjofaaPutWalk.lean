/- The law StuffPut returns true for all texts: bits are put in as the document says, errors too. -/
import Derived.Test.YtkfgcedbdfjofaaStuffed
import Derived.Test.YtkfgcedbdfjofaaRefPut
namespace Go.Proofs.Ytkfgcedbdfjofaa
open Go.ChangeShapes Go.WideShapes Go.ChangeAt Go.RowKit
namespace Bw
open Bm

set_option maxHeartbeats 2000000 in
theorem putLaw_bad (s : ByteArray) (w : World) (hs : s.size ≤ maxLen) (hc : checkE s.data.toList ≠ 0) :
    Calls Try.prog 4 #[.string s] w fun e w' => e = .returned (.bool true) ∧ Below w.heap.size w w' := by
  have HS := Hid.mk hs
  have HC := Hid.mk hc
  have hc' : (checkE s.data.toList == 0) = false := by simpa using hc
  clear hs
  go_enter Try.func4, Try.ntmps4
  go_wp2_with fail
  refine (put_bad s w HS.out HC.out).mono ?_
  rintro e w1 ⟨rfl, hb1⟩
  go_wp2_with fail
  refine (checkRow_any s w1 HS.out).mono ?_
  rintro e w2 ⟨rfl, hw2⟩
  subst hw2
  go_wp2_with fail
  refine (stuffed_any _).mono ?_
  rintro e w3 ⟨rfl, hb3⟩
  go_wp2_with fail
  refine (stuffed_any _).mono ?_
  rintro e w4 ⟨rfl, hb4⟩
  go_wp2_with fail
  go_ret
  exact ⟨by first | rfl | exact (by simp), bl2 (bl2 hb1 hb3) hb4⟩

set_option maxHeartbeats 2000000 in
theorem putLaw_ok (s : ByteArray) (w : World) (hc : checkE s.data.toList = 0) :
    Calls Try.prog 4 #[.string s] w fun e w' => e = .returned (.bool true) ∧ Below w.heap.size w w' := by
  obtain ⟨h1000, hrow⟩ := small_of_check hc
  have hck := fun W => checkRow_any s W (by unfold maxLen; omega)
  rw [hc] at hck
  have hput := fun W => put_ok s W hc
  have href := fun W => putBits_any s W hrow h1000
  have HP := Hid.mk hput
  have HF := Hid.mk href
  clear hc hrow hput href
  go_enter Try.func4, Try.ntmps4
  go_wp2_with fail
  refine (HP.out w).mono ?_
  rintro e w1 ⟨rfl, hb1⟩
  go_wp2_with fail
  refine (hck w1).mono ?_
  rintro e w2 ⟨rfl, hw2⟩
  subst hw2
  clear hck
  go_wp2_with fail
  refine (stuffed_any _).mono ?_
  rintro e w3 ⟨rfl, hb3⟩
  go_wp2_with fail
  refine (HF.out _).mono ?_
  rintro e w4 ⟨rfl, hb4⟩
  go_wp2_with fail
  go_ret
  exact ⟨by first | rfl | exact (by simp), bl2 (bl2 hb1 hb3) hb4⟩
end Bw
end Go.Proofs.Ytkfgcedbdfjofaa
namespace Go.Proofs.Ytkfgcedbdfjofaa.stuffPut
theorem walk (a0 : ByteArray) (w : World) (w0 : a0.size ≤ maxLen) :
    Calls Try.prog 4 #[.string a0] w fun e w' => e = .returned (.bool true) ∧ RowKit.Below w.heap.size w w' := by
  by_cases h : Bm.checkE a0.data.toList = 0
  · exact Bw.putLaw_ok a0 w h
  · exact Bw.putLaw_bad a0 w w0 h
end Go.Proofs.Ytkfgcedbdfjofaa.stuffPut
