/- The law StuffTake returns true for all texts and numbers: so many bits are taken as the document says, errors too. -/
import Derived.Test.YtkfgcedbdfjofabStuffed
import Derived.Test.YtkfgcedbdfjofabRefTake
namespace Go.Proofs.Ytkfgcedbdfjofab
open Go.ChangeShapes Go.WideShapes Go.ChangeAt Go.RowKit
namespace Bw
open Bm

set_option maxHeartbeats 2000000 in
theorem stake_bad (s : ByteArray) (n : Int) (w : World) (hs : s.size ≤ maxLen) (hc : checkE s.data.toList ≠ 0) :
    Calls Try.prog 3 #[.string s, .int .i64 n] w fun e w' => e = .returned (.bool true) ∧ Below w.heap.size w w' := by
  have HS := Hid.mk hs
  have HC := Hid.mk hc
  have hc' : (checkE s.data.toList == 0) = false := by simpa using hc
  clear hs
  go_enter Try.func3, Try.ntmps3
  go_wp2_with fail
  refine (take_bad s n w HS.out HC.out).mono ?_
  rintro e w1 ⟨rfl, hb1⟩
  go_wp2_with fail
  refine (checkRow_any s w1 HS.out).mono ?_
  rintro e w2 ⟨rfl, hw2⟩
  subst hw2
  go_wp2_with fail
  refine (stuffed_any _).mono ?_
  rintro e w3 ⟨rfl, hb3⟩
  go_wp2_with fail
  refine (stuffed_any _).mono ?_
  rintro e w4 ⟨rfl, hb4⟩
  go_wp2_with fail
  go_ret
  exact ⟨by first | rfl | exact (by simp), bl2 (bl2 hb1 hb3) hb4⟩

set_option maxHeartbeats 2000000 in
theorem stake_low (s : ByteArray) (n : Int) (w : World) (hc : checkE s.data.toList = 0) (h0 : n < 0) :
    Calls Try.prog 3 #[.string s, .int .i64 n] w fun e w' => e = .returned (.bool true) ∧ Below w.heap.size w w' := by
  obtain ⟨h1000, hrow⟩ := small_of_check hc
  have hck := fun W => checkRow_any s W (by unfold maxLen; omega)
  rw [hc] at hck
  have ht := take_range s n w hc (.inl h0)
  have HT := Hid.mk ht
  clear hc hrow ht
  go_enter Try.func3, Try.ntmps3
  go_wp2_with fail
  refine HT.out.mono ?_
  rintro e w1 ⟨rfl, hb1⟩
  go_wp2_with fail
  refine (hck w1).mono ?_
  rintro e w2 ⟨rfl, hw2⟩
  subst hw2
  clear hck
  go_wp2_with fail
  refine (stuffed_any _).mono ?_
  rintro e w3 ⟨rfl, hb3⟩
  go_wp2_with fail
  refine (stuffed_any _).mono ?_
  rintro e w4 ⟨rfl, hb4⟩
  go_wp2_with fail
  go_ret
  exact ⟨by first | rfl | exact (by simp), bl2 (bl2 hb1 hb3) hb4⟩

set_option maxHeartbeats 2000000 in
theorem stake_high (s : ByteArray) (n : Int) (w : World) (hc : checkE s.data.toList = 0) (h0 : 1000 < n) :
    Calls Try.prog 3 #[.string s, .int .i64 n] w fun e w' => e = .returned (.bool true) ∧ Below w.heap.size w w' := by
  obtain ⟨h1000, hrow⟩ := small_of_check hc
  have hck := fun W => checkRow_any s W (by unfold maxLen; omega)
  rw [hc] at hck
  have ht := take_range s n w hc (.inr h0)
  have HT := Hid.mk ht
  have hd : decide (n < 0) = false := by simp; omega
  clear hc hrow ht
  go_enter Try.func3, Try.ntmps3
  go_wp2_with fail
  refine HT.out.mono ?_
  rintro e w1 ⟨rfl, hb1⟩
  go_wp2_with fail
  refine (hck w1).mono ?_
  rintro e w2 ⟨rfl, hw2⟩
  subst hw2
  clear hck
  go_wp2_with fail
  refine (stuffed_any _).mono ?_
  rintro e w3 ⟨rfl, hb3⟩
  go_wp2_with fail
  refine (stuffed_any _).mono ?_
  rintro e w4 ⟨rfl, hb4⟩
  go_wp2_with fail
  go_ret
  exact ⟨by first | rfl | exact (by simp), bl2 (bl2 hb1 hb3) hb4⟩

set_option maxHeartbeats 2000000 in
theorem stake_ok (s : ByteArray) (n : Nat) (w : World) (hc : checkE s.data.toList = 0) (hn : n ≤ 1000) :
    Calls Try.prog 3 #[.string s, .int .i64 n] w fun e w' => e = .returned (.bool true) ∧ Below w.heap.size w w' := by
  obtain ⟨h1000, hrow⟩ := small_of_check hc
  have hck := fun W => checkRow_any s W (by unfold maxLen; omega)
  rw [hc] at hck
  have ht := take_ok s n w hc hn
  have hr := fun W => takeBits_any s n W h1000 hn
  obtain ⟨A, hA⟩ : ∃ A, A = takeG s.data.toList n 0 [] := ⟨_, rfl⟩
  rw [← hA] at ht hr
  obtain ⟨x, k, e0⟩ := A
  unfold takeV at ht hr
  simp only at ht hr
  have HT := Hid.mk ht
  have HF := Hid.mk hr
  have hn0 : (n : Int) ≤ 1000 := by omega
  have hd : decide ((1000 : Int) < (n : Int)) = false := by simp; omega
  have hd0 : decide ((n : Int) < 0) = false := by simp
  clear hc hrow ht hr hA
  go_enter Try.func3, Try.ntmps3
  go_wp2_with fail
  refine HT.out.mono ?_
  rintro e w1 ⟨rfl, hb1⟩
  go_wp2_with fail
  refine (hck w1).mono ?_
  rintro e w2 ⟨rfl, hw2⟩
  subst hw2
  clear hck
  go_wp2_with fail
  refine (stuffed_any _).mono ?_
  rintro e w3 ⟨rfl, hb3⟩
  go_wp2_with fail
  refine (HF.out _).mono ?_
  rintro e w4 ⟨rfl, hb4⟩
  go_wp2_with fail
  go_ret
  exact ⟨by first | rfl | exact (by simp), bl2 (bl2 hb1 hb3) hb4⟩
end Bw
end Go.Proofs.Ytkfgcedbdfjofab
namespace Go.Proofs.Ytkfgcedbdfjofab.stuffTake
theorem walk (a0 : ByteArray) (a1 : Int) (w : World) (w0 : a0.size ≤ maxLen) (w1 : (Lit.int .i64 a1).wf = true) :
    Calls Try.prog 3 #[.string a0, .int .i64 a1] w fun e w' => e = .returned (.bool true) ∧ RowKit.Below w.heap.size w w' := by
  by_cases h : Bm.checkE a0.data.toList = 0
  · by_cases h1 : a1 < 0
    · exact Bw.stake_low a0 a1 w h h1
    · by_cases h2 : 1000 < a1
      · exact Bw.stake_high a0 a1 w h h2
      · obtain ⟨n, rfl⟩ : ∃ n : Nat, a1 = n := ⟨a1.toNat, by omega⟩
        exact Bw.stake_ok a0 n w h (by omega)
  · exact Bw.stake_bad a0 a1 w w0 h
end Go.Proofs.Ytkfgcedbdfjofab.stuffTake
