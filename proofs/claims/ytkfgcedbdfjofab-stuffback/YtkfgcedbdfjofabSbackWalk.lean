/- The law StuffBack returns true for all two texts: what was put in is taken out, whatever follows; no six alike are left; there are no more bits than Most tells. -/
import Derived.Test.YtkfgcedbdfjofabStuffed
import Derived.Test.YtkfgcedbdfjofabStuffRun
import Derived.Test.YtkfgcedbdfjofabStuffMost
namespace Go.Proofs.Ytkfgcedbdfjofab
open Go.ChangeShapes Go.WideShapes Go.ChangeAt Go.RowKit
namespace Bw
open Bm

set_option maxHeartbeats 2000000 in
theorem sback_bad (b r : ByteArray) (w : World) (hs : b.size ≤ maxLen) (hc : checkE b.data.toList ≠ 0) :
    Calls Try.prog 5 #[.string b, .string r] w fun e w' => e = .returned (.bool true) ∧ Below w.heap.size w w' := by
  have HS := Hid.mk hs
  have HC := Hid.mk hc
  have hc' : (checkE b.data.toList == 0) = false := by simpa using hc
  clear hs
  go_enter Try.func5, Try.ntmps5
  go_wp2_with fail
  refine (put_bad b w HS.out HC.out).mono ?_
  rintro e w1 ⟨rfl, hb1⟩
  go_wp2_with fail
  refine (stuffed_any _).mono ?_
  rintro e w3 ⟨rfl, hb3⟩
  go_wp2_with fail
  refine (stuffed_any _).mono ?_
  rintro e w4 ⟨rfl, hb4⟩
  go_wp2_with fail
  go_ret
  exact ⟨by first | rfl | exact (by simp), bl2 (bl2 hb1 hb3) hb4⟩

set_option maxHeartbeats 2000000 in
theorem sback_rest (b r : ByteArray) (w : World) (hr : r.size ≤ maxLen) (hc : checkE b.data.toList = 0) (hcr : checkE r.data.toList ≠ 0) :
    Calls Try.prog 5 #[.string b, .string r] w fun e w' => e = .returned (.bool true) ∧ Below w.heap.size w w' := by
  have HS := Hid.mk hr
  have hput := put_ok b w hc
  have HP := Hid.mk hput
  have hc' : (checkE r.data.toList == 0) = false := by simpa using hcr
  clear hr hc hput
  go_enter Try.func5, Try.ntmps5
  go_wp2_with fail
  refine HP.out.mono ?_
  rintro e w1 ⟨rfl, hb1⟩
  go_wp2_with fail
  refine (stuffed_any _).mono ?_
  rintro e w3 ⟨rfl, hb3⟩
  go_wp2_with fail
  refine (check_any r _ HS.out).mono ?_
  rintro e w5 ⟨rfl, hb5⟩
  go_wp2_with fail
  refine (stuffed_any _).mono ?_
  rintro e w4 ⟨rfl, hb4⟩
  go_wp2_with fail
  go_ret
  exact ⟨by first | rfl | exact (by simp), bl2 (bl2 (bl2 hb1 hb3) hb5) hb4⟩

set_option maxHeartbeats 4000000 in
theorem sback_ok (b r : ByteArray) (w : World) (hc : checkE b.data.toList = 0) (hcr : checkE r.data.toList = 0) :
    Calls Try.prog 5 #[.string b, .string r] w fun e w' => e = .returned (.bool true) ∧ Below w.heap.size w w' := by
  obtain ⟨h1000, hrow⟩ := small_of_check hc
  obtain ⟨hr1000, hrrow⟩ := small_of_check hcr
  have hput := put_ok b w hc
  have hck := fun W => check_any r W (by unfold maxLen; omega)
  rw [hcr] at hck
  have hblen : b.data.toList.length = b.size := by simp
  obtain ⟨S, hSE⟩ : ∃ S, S = ByteArray.mk (putF b.data.toList).toArray := ⟨_, rfl⟩
  have hSl : S.data.toList = putF b.data.toList := by rw [hSE, mk_list]
  have hSs : S.size = (putF b.data.toList).length := by rw [hSE, mk_size]
  rw [← hSE] at hput
  have hS2 : S.size ≤ 2000 := by have := putF_len2 b.data.toList; omega
  have hmost : S.size ≤ b.size + (b.size - 1) / 4 := by
    obtain ⟨k, h1, h2⟩ := putF_most b.data.toList hrow
    by_cases h0 : b.data.toList = []
    · rw [hSs, h0]; exact Nat.zero_le _
    · have hp : 1 ≤ (endR (putF b.data.toList)).2 := endR_pos (fun e => by
        have := congrArg List.length e
        rw [h1] at this
        rw [List.length_nil] at this
        exact h0 (List.eq_nil_of_length_eq_zero (by omega)))
      omega
  have htake : S.size + r.size ≤ 1000 → ∀ W, Calls Try.prog 6 #[.string (S ++ r), .int .i64 b.size] W fun e w' => e = .returned (.tuple #[.string b, .int .i64 S.size, .int .i64 0]) ∧ Below W.heap.size W w' := by
    intro hle W
    have hl : (S ++ r).data.toList = putF b.data.toList ++ r.data.toList := by rw [ba_cat, hSl]
    have hcc : checkE (S ++ r).data.toList = 0 := checkE_row (by rw [hl, rowB_append, putF_row _ hrow, hrrow]; rfl) (by rw [hl, List.length_append, ← hSs]; simpa using hle)
    have := take_ok (S ++ r) b.size W hcc h1000
    rw [hl] at this
    have htp := take_put r.data.toList b.data.toList [] (by simpa using hrow)
    rw [List.nil_append, putF_nil, hblen] at htp
    rw [show ([] : List UInt8).length = 0 from rfl] at htp
    rw [htp] at this
    unfold takeV at this
    simp only at this
    rw [← hSs, ← ba_eq (show b.data.toList = b.data.toList from rfl)] at this
    exact this
  have hrun : S.size + r.size ≤ 1000 → ∀ W, Calls Try.prog 15 #[.string S] W fun e w' => e = .returned (.tuple #[.int .i64 (runF S.data.toList S.size).1, .int .i64 0]) ∧ Below W.heap.size W w' := fun hle W =>
    run_ok S W (checkE_row (by rw [hSl]; exact putF_row _ hrow) (by rw [hSl, ← hSs]; omega))
  have hr6 : (runF S.data.toList S.size).1 ≤ 5 := by
    rw [hSl, hSs]; exact run_put _ hrow
  generalize (runF S.data.toList S.size).1 = R at *
  have hr6' : (R : Int) < 6 := by omega
  have HP := Hid.mk hput
  have HT := Hid.mk htake
  have HRU := Hid.mk hrun
  have hmo := fun W => most_any b.size W h1000
  generalize b.size + (b.size - 1) / 4 = M at *
  have hM' : (S.size : Int) ≤ (M : Int) := by omega
  have HMO := Hid.mk hmo
  have HCK := Hid.mk hck
  clear hput htake hrun hmo hSE hSl hSs hmost hrow hrrow hc hcr hck hblen hr6
  go_enter Try.func5, Try.ntmps5
  go_wp2_with fail
  refine HP.out.mono ?_
  rintro e w1 ⟨rfl, hb1⟩
  go_wp2_with fail
  refine (stuffed_any _).mono ?_
  rintro e w3 ⟨rfl, hb3⟩
  go_wp2_with fail
  refine (HCK.out _).mono ?_
  rintro e w5 ⟨rfl, hb5⟩
  have hbel5 := bl2 (bl2 hb1 hb3) hb5
  clear hb1 hb3 hb5
  by_cases hle : S.size + r.size ≤ 1000
  · have hle' : decide ((1000 : Int) < (S.size : Int) + (r.size : Int)) = false := by simp; omega
    go_wp2_with fail
    refine (HT.out hle _).mono ?_
    rintro e w6 ⟨rfl, hb6⟩
    go_wp2_with fail
    refine (HMO.out _).mono ?_
    rintro e w7 ⟨rfl, hw7⟩
    subst hw7
    go_wp2_with fail
    refine (HRU.out hle _).mono ?_
    rintro e w8 ⟨rfl, hb8⟩
    go_wp2_with fail
    go_ret
    exact ⟨by first | rfl | exact (by simp), bl2 (bl2 hbel5 hb6) hb8⟩
  · have hle' : (1000 : Int) < (S.size : Int) + (r.size : Int) := by omega
    go_wp2_with fail
    refine (stuffed_any _).mono ?_
    rintro e w4 ⟨rfl, hb4⟩
    go_wp2_with fail
    go_ret
    exact ⟨by first | rfl | exact (by simp), bl2 hbel5 hb4⟩
end Bw
end Go.Proofs.Ytkfgcedbdfjofab
namespace Go.Proofs.Ytkfgcedbdfjofab.stuffBack
theorem walk (a0 a1 : ByteArray) (w : World) (w0 : a0.size ≤ maxLen) (w1 : a1.size ≤ maxLen) :
    Calls Try.prog 5 #[.string a0, .string a1] w fun e w' => e = .returned (.bool true) ∧ RowKit.Below w.heap.size w w' := by
  by_cases h : Bm.checkE a0.data.toList = 0
  · by_cases h' : Bm.checkE a1.data.toList = 0
    · exact Bw.sback_ok a0 a1 w h h'
    · exact Bw.sback_rest a0 a1 w w1 h h'
  · exact Bw.sback_bad a0 a1 w w0 h
end Go.Proofs.Ytkfgcedbdfjofab.stuffBack
