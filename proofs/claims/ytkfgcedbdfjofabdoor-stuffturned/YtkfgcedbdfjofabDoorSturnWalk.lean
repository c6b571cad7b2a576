/- The law StuffTurned returns true for all texts, where the tables of unicode/utf8 lie as they are laid: of a row that is turned what is put in is turned. -/
import Derived.Test.YtkfgcedbdfjofabDoorStuffed
import Derived.Test.YtkfgcedbdfjofabDoorBitsTurn
namespace Go.Proofs.YtkfgcedbdfjofabDoor
open Go.ChangeShapes Go.WideShapes Go.ChangeAt Go.RowKit
namespace Bw
open Bm

set_option maxHeartbeats 2000000 in
theorem sturn_bad (b : ByteArray) (w : World) (hs : b.size ≤ maxLen) (hc : checkE b.data.toList ≠ 0) :
    Calls Tryd.prog 3 #[.string b] w fun e w' => e = .returned (.bool true) ∧ Below w.heap.size w w' := by
  have HS := Hid.mk hs
  have HC := Hid.mk hc
  have hc' : (checkE b.data.toList == 0) = false := by simpa using hc
  clear hs
  go_enter Tryd.func3, Tryd.ntmps3
  go_wp2_with fail
  refine (put_bad b w HS.out HC.out).mono ?_
  rintro e w1 ⟨rfl, hb1⟩
  go_wp2_with fail
  refine (stuffed_any _).mono ?_
  rintro e w3 ⟨rfl, hb3⟩
  go_wp2_with fail
  refine (stuffed_any _).mono ?_
  rintro e w4 ⟨rfl, hb4⟩
  go_wp2_with fail
  go_ret
  exact ⟨by first | rfl | exact (by simp), bl2 (bl2 hb1 hb3) hb4⟩

theorem oth_otb (l : List UInt8) : l.map oth = l.map otb := rfl

set_option maxHeartbeats 4000000 in
theorem sturn_ok (b : ByteArray) (w : World) (hc : checkE b.data.toList = 0) (hT : Lib.Utf8Tabs 0 1 w) :
    Calls Tryd.prog 3 #[.string b] w fun e w' => e = .returned (.bool true) ∧ Below w.heap.size w w' := by
  obtain ⟨h1000, hrow⟩ := small_of_check hc
  have hblen : b.data.toList.length = b.size := by simp
  have hput := put_ok b w hc
  obtain ⟨S, hSE⟩ : ∃ S, S = ByteArray.mk (putF b.data.toList).toArray := ⟨_, rfl⟩
  have hSl : S.data.toList = putF b.data.toList := by rw [hSE, mk_list]
  have hSs : S.size = (putF b.data.toList).length := by rw [hSE, mk_size]
  rw [← hSE] at hput
  have hS2 : S.size ≤ 2000 := by have := putF_len2 b.data.toList; omega
  obtain ⟨T, hTE⟩ : ∃ T, T = ByteArray.mk (b.data.toList.map oth).toArray := ⟨_, rfl⟩
  have hTl : T.data.toList = b.data.toList.map otb := by rw [hTE, mk_list, oth_otb]
  have hTrow : rowB T.data.toList = true := by
    rw [hTl]
    unfold rowB
    rw [List.all_map, List.all_eq_true]
    intro x _
    exact otb_bit x
  have hTc : checkE T.data.toList = 0 := checkE_row hTrow (by rw [hTl, List.length_map, hblen]; exact h1000)
  obtain ⟨V, hVE⟩ : ∃ V, V = ByteArray.mk (S.data.toList.map oth).toArray := ⟨_, rfl⟩
  have hturn := fun W hW => turned_ok b W hc hW
  rw [← hTE] at hturn
  have hput2 := fun W => put_ok T W hTc
  have hUV : ByteArray.mk (putF T.data.toList).toArray = V := by
    rw [hVE, hTl, putF_turn _ hrow, hSl, oth_otb]
  rw [hUV] at hput2
  have hturn2 : S.size ≤ 1000 → ∀ W, Lib.Utf8Tabs 0 1 W → Calls Tryd.prog 6 #[.string S] W fun e w' => e = .returned (.tuple #[.string V, .int .i64 0]) ∧ Below W.heap.size W w' := by
    intro hle W hW
    have := turned_ok S W (checkE_row (by rw [hSl]; exact putF_row _ hrow) (by rw [hSl, ← hSs]; exact hle)) hW
    rw [← hVE] at this
    exact this
  have HP := Hid.mk hput
  have HP2 := Hid.mk hput2
  have HT1 := Hid.mk hturn
  have HT2 := Hid.mk hturn2
  have HTT := Hid.mk hT
  clear hput hput2 hturn hturn2 hT hSE hSl hSs hTE hTl hTrow hTc hVE hUV hrow hc hblen
  go_enter Tryd.func3, Tryd.ntmps3
  go_wp2_with fail
  refine HP.out.mono ?_
  rintro e w1 ⟨rfl, hb1⟩
  go_wp2_with fail
  refine (stuffed_any _).mono ?_
  rintro e w3 ⟨rfl, hb3⟩
  have hbel3 := bl2 hb1 hb3
  clear hb1 hb3 HP
  by_cases hle : S.size ≤ 1000
  · have hle' : decide ((1000 : Int) < (S.size : Int)) = false := by simp; omega
    go_wp2_with fail
    refine (HT1.out _ (tabs_below HTT.out hbel3)).mono ?_
    rintro e w4 ⟨rfl, hb4⟩
    have hbel4 := bl2 hbel3 hb4
    clear hb4 hbel3 HT1
    go_wp2_with fail
    refine (HP2.out _).mono ?_
    rintro e w5 ⟨rfl, hb5⟩
    have hbel5 := bl2 hbel4 hb5
    clear hb5 hbel4 HP2
    go_wp2_with fail
    refine (HT2.out hle _ (tabs_below HTT.out hbel5)).mono ?_
    rintro e w6 ⟨rfl, hb6⟩
    go_wp2_with fail
    go_ret
    exact ⟨by first | rfl | exact (by simp), bl2 hbel5 hb6⟩
  · have hle' : (1000 : Int) < (S.size : Int) := by omega
    go_wp2_with fail
    refine (stuffed_any _).mono ?_
    rintro e w4 ⟨rfl, hb4⟩
    go_wp2_with fail
    go_ret
    exact ⟨by first | rfl | exact (by simp), bl2 hbel3 hb4⟩
end Bw
end Go.Proofs.YtkfgcedbdfjofabDoor
