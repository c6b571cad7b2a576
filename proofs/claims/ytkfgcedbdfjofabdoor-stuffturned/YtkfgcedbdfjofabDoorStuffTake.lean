/- What stuff.Take answers of any text and any number: the bits that were there ahead of Put, how many bits they take, and else which error. -/
import Derived.Test.YtkfgcedbdfjofabDoorStuffPut
namespace Go.Proofs.YtkfgcedbdfjofabDoor
open Go.ChangeShapes Go.WideShapes Go.ChangeAt Go.RowKit
namespace Bw
open Bm

set_option maxHeartbeats 1000000 in
theorem take_bad (s : ByteArray) (n : Int) (w : World) (hs : s.size ≤ maxLen) (hc : checkE s.data.toList ≠ 0) :
    Calls Tryd.prog 10 #[.string s, .int .i64 n] w fun e w' => e = .returned (.tuple #[.string ⟨#[]⟩, .int .i64 0, .int .i64 (checkE s.data.toList)]) ∧ Below w.heap.size w w' := by
  have HS := Hid.mk hs
  have hc' : (checkE s.data.toList == 0) = false := by simpa using hc
  clear hs
  go_enter Tryd.func10, Tryd.ntmps10
  go_wp2_with fail
  refine (check_any s w HS.out).mono ?_
  rintro e w1 ⟨rfl, hb1⟩
  go_wp2_with fail
  go_ret3
  exact ⟨rfl, hb1⟩

set_option maxHeartbeats 1000000 in
theorem take_range (s : ByteArray) (n : Int) (w : World) (hc : checkE s.data.toList = 0) (hn : n < 0 ∨ 1000 < n) :
    Calls Tryd.prog 10 #[.string s, .int .i64 n] w fun e w' => e = .returned (.tuple #[.string ⟨#[]⟩, .int .i64 0, .int .i64 3]) ∧ Below w.heap.size w w' := by
  obtain ⟨h1000, hrow⟩ := small_of_check hc
  have hck := fun W => check_any s W (by unfold maxLen; omega)
  rw [hc] at hck
  have HN := Hid.mk hn
  clear hc hrow hn
  go_enter Tryd.func10, Tryd.ntmps10
  go_wp2_with fail
  refine (hck w).mono ?_
  rintro e w1 ⟨rfl, hb1⟩
  clear hck
  go_wp2_with fail
  refine (isLength_no n w1 HN.out).mono ?_
  rintro e w2 ⟨rfl, hw2⟩
  subst hw2
  go_wp2_with fail
  go_ret3
  exact ⟨rfl, hb1⟩

def takeV (A : List UInt8 × Nat × Int) : Value := .tuple #[.string ⟨A.1.toArray⟩, .int .i64 A.2.1, .int .i64 A.2.2]

set_option maxHeartbeats 8000000 in
theorem take_ok (s : ByteArray) (n : Nat) (w : World) (hc : checkE s.data.toList = 0) (hn : n ≤ 1000) :
    Calls Tryd.prog 10 #[.string s, .int .i64 n] w fun e w' => e = .returned (takeV (takeG s.data.toList n 0 [])) ∧ Below w.heap.size w w' := by
  obtain ⟨i0, hi, hz0, hz1, hz2⟩ := info_parts info_u8
  obtain ⟨h1000, hrow⟩ := small_of_check hc
  have hck := fun W => check_any s W (by unfold maxLen; omega)
  rw [hc] at hck
  clear hc hrow
  obtain ⟨A, hA⟩ : ∃ A, A = takeG s.data.toList n 0 [] := ⟨_, rfl⟩
  rw [← hA]
  have HA := Hid.mk hA
  clear hA
  have hll : s.data.toList.length = s.size := by simp
  have HLL := Hid.mk hll
  clear hll
  go_enter Tryd.func10, Tryd.ntmps10
  go_wp2_with fail
  refine (hck w).mono ?_
  rintro e w1 ⟨rfl, hb1⟩
  clear hck
  have hw1 := hb1.size
  go_wp2_with fail
  refine (isLength_yes n w1 (by omega) (by omega)).mono ?_
  rintro e w2 ⟨rfl, hw2⟩
  subst hw2
  go_wp2_with fail
  go_loopw [8, 10, 21] (fun r uu i wr => ∃ (k u : Nat) (o : List UInt8), k ≤ n ∧ u ≤ s.size ∧ i = .int .i64 k ∧ uu = .int .i64 u ∧ o.length = k ∧ (endR (s.data.toList.take u)).2 ≤ 4 ∧ takeG s.data.toList (n - k) u o = A ∧ wr.ownsRow (w2.heap.size + 1) 5 1 r o.length (cellsOf o) ∧ isRun wr w2.heap.size (endR (s.data.toList.take u)) ∧ Below w.heap.size w wr ∧ w2.heap.size + 1 ≤ wr.heap.size) (fun _ _ i _ => n - (intOf i).toNat)
  case atStart => exact ⟨0, 0, [], Nat.zero_le _, Nat.zero_le _, rfl, rfl, rfl, by simp [endR], HA.out.symm, World.ownsRow_nil _ _ _ _, heap_alloc_new w2 _, hb1.alloc hw1 _, by simp⟩
  case round =>
    obtain ⟨k, u, o, hk, hu, rfl, rfl, hol, h4, hG, hown, hrun, hbel, hsz⟩ := hrel
    have HG := Hid.mk hG
    have H4 := Hid.mk h4
    have HOL := Hid.mk hol
    have HRUN := Hid.mk hrun
    have hol2 : o.length ≤ 1000 := by omega
    clear hG h4 hrun hol
    by_cases hkn : k < n
    · have hkn' : (k : Int) < (n : Int) := by omega
      have hm : n - k = (n - (k + 1)) + 1 := by omega
      have HM := Hid.mk hm
      clear hm
      by_cases hlt : u < s.size
      · have hlt' : (u : Int) < (s.size : Int) := by omega
        obtain ⟨c, hcE⟩ : ∃ c, c = s[u] := ⟨_, rfl⟩
        have hgd : s.data.toList.getD u 0 = c := by rw [hcE, at_getD s u hlt]
        have HGD := Hid.mk hgd
        have hcv : s[u] = c := hcE.symm
        clear hcE hgd
        go_wp2_with (at_builtin; refine wpList_append_own _ rfl (.tmp 32) (.tmp 34) 28 rfl (w2.heap.size + 1) 5 i0 (.int .u8 0) 1 1 Tryd.underlying28 hi hz0 hz1 hz2 rfl (by decide) _ _ _ rfl (hown.alloc _) ⟨wr.heap.size, 0, none⟩ 1 1 [Value.int .u8 c.toNat] rfl rfl (by intro q u hq; match q, hq with | 0, hq => (simp at hq; subst hq; simp [Addr.add])) (by intro u hu; simp at hu; subst hu; rfl) (by unfold maxLen; omega) (by omega) (by simp; omega) ?_; intro v1 w3 hown1 hgrow1 _)
        have hbw3 : Below (w2.heap.size + 1) wr w3 := Below.grown ((Below.refl _ _).alloc hsz _) hgrow1 (by simp; omega) (fun q hq => (hown.lt q hq).1)
        have hrun3 := isRun_at HRUN.out hbw3 (by omega)
        have hbel3 := hbel.trans (hbw3.mono (Nat.le_trans hw1 (Nat.le_succ _)))
        have hsz3 : w2.heap.size + 1 ≤ w3.heap.size := Nat.le_trans hsz hbw3.size
        have hown1' : w3.ownsRow (w2.heap.size + 1) 5 1 v1 (o ++ [c]).length (cellsOf (o ++ [c])) := by
          rw [cellsOf_append, List.length_append]; exact hown1
        have HOWN1 := Hid.mk hown1'
        have hadd := add_any w2.heap.size (endR (s.data.toList.take u)) c w3 (by have := H4.out; omega) hrun3
        have hnx := end_next s.data.toList u (by rw [HLL.out]; exact hlt)
        rw [HGD.out] at hnx
        rw [← hnx] at hadd
        have HADD := Hid.mk hadd
        have hon := end_on s.data.toList u (by rw [HLL.out]; exact hlt) H4.out
        have HON := Hid.mk hon
        clear hown hown1 hown1' hgrow1 hbw3 hbel hsz hrun3 HRUN hadd hnx hon
        go_wp2_with fail
        refine HADD.out.mono ?_
        rintro e w4 ⟨rfl, hrun4, hat4⟩
        have hown4 := hat4.owns HOWN1.out (Nat.lt_succ_self _)
        have hbel4 := hbel3.trans (hat4.below hw1)
        have hsz4 : w2.heap.size + 1 ≤ w4.heap.size := by rw [hat4.size]; exact hsz3
        have HRUN4 := Hid.mk hrun4
        clear HOWN1 HADD hat4 hbel3 hsz3 hrun4
        by_cases h5 : (endR (s.data.toList.take (u + 1))).2 = 5
        · have h5b : ((endR (s.data.toList.take (u + 1))).2 == 5) = true := by simpa using h5
          have H5 := Hid.mk h5
          clear h5
          by_cases hlt2 : u + 1 < s.size
          · have hlt2' : (u : Int) + 1 < (s.size : Int) := by omega
            obtain ⟨d, hdE⟩ : ∃ d, d = s[u + 1] := ⟨_, rfl⟩
            have hgd2 : s.data.toList.getD (u + 1) 0 = d := by rw [hdE, at_getD s (u + 1) hlt2]
            have HGD2 := Hid.mk hgd2
            have hdv : s[u + 1] = d := hdE.symm
            clear hdE hgd2
            by_cases h6 : d = c
            · have h6' : ((d.toNat : Int) == (c.toNat : Int)) = true := by rw [h6]; simp
              have hfin : A = ([], 0, 5) := by
                rw [← HG.out, HM.out]
                exact takeG_six _ _ _ _ (by rw [HLL.out]; exact hlt2) H5.out (by rw [HGD.out, HGD2.out]; exact h6)
              subst hfin
              clear h6
              go_wp2_with fail
              go_ret3
              exact ⟨rfl, hbel4⟩
            · have h6' : ((d.toNat : Int) == (c.toNat : Int)) = false := by
                have : d.toNat ≠ c.toNat := fun h => h6 (UInt8.toNat_inj.1 h)
                rw [beq_eq_false_iff_ne]; omega
              have hG2 : takeG s.data.toList (n - (k + 1)) (u + 2) (o ++ [c]) = A := by
                rw [← HG.out, HM.out, takeG_on5 _ _ _ _ (by rw [HLL.out]; exact hlt2) H5.out (by rw [HGD.out, HGD2.out]; exact h6), HGD.out]
              have HG2 := Hid.mk hG2
              have hadd := add_any w2.heap.size (endR (s.data.toList.take (u + 1))) d w4 (by have := H5.out; omega) HRUN4.out
              have hnx := end_next s.data.toList (u + 1) (by rw [HLL.out]; exact hlt2)
              rw [HGD2.out] at hnx
              rw [← hnx] at hadd
              have HADD := Hid.mk hadd
              have hon := end_on5 s.data.toList u (by rw [HLL.out]; exact hlt2) (by rw [HGD.out, HGD2.out]; exact h6)
              have hon' : (endR (s.data.toList.take (u + 2))).2 ≤ 4 := by rw [hon]; simp
              have HON2 := Hid.mk hon'
              clear h6 hG2 hadd hnx hon hon' HRUN4
              go_wp2_with fail
              refine HADD.out.mono ?_
              rintro e w5 ⟨rfl, hrun5, hat5⟩
              have hown5 := hat5.owns hown4 (Nat.lt_succ_self _)
              have hbel5 := hbel4.trans (hat5.below hw1)
              have hsz5 : w2.heap.size + 1 ≤ w5.heap.size := by rw [hat5.size]; exact hsz4
              clear hown4 HADD hat5 hbel4 hsz4
              go_wp2_with fail
              go_roundw
              case rel => exact ⟨k + 1, u + 2, o ++ [c], by omega, by omega, by go_num, int_eq (by omega), by rw [List.length_append, HOL.out]; rfl, HON2.out, HG2.out, hown5, hrun5, hbel5, hsz5⟩
              case measure => simp [intOf]; omega
          · have hlt2' : ((u : Int) + 1 == (s.size : Int)) = true := by simp; omega
            have hfin : A = ([], 0, 7) := by
              rw [← HG.out, HM.out]
              exact takeG_end5 _ _ _ _ (by rw [HLL.out]; omega) H5.out
            subst hfin
            go_wp2_with fail
            go_ret3
            exact ⟨rfl, hbel4⟩
        · have h5b : ((endR (s.data.toList.take (u + 1))).2 == 5) = false := by simpa using h5
          have hG2 : takeG s.data.toList (n - (k + 1)) (u + 1) (o ++ [c]) = A := by
            rw [← HG.out, HM.out, takeG_on _ _ _ _ (by rw [HLL.out]; exact hlt) h5, HGD.out]
          have HG2 := Hid.mk hG2
          have hon := HON.out h5
          have HON2 := Hid.mk hon
          clear h5 hG2 hon
          go_wp2_with fail
          go_roundw
          case rel => exact ⟨k + 1, u + 1, o ++ [c], by omega, by omega, by go_num, int_eq (by omega), by rw [List.length_append, HOL.out]; rfl, HON2.out, HG2.out, hown4, HRUN4.out, hbel4, hsz4⟩
          case measure => simp [intOf]; omega
      · have hlt' : ((u : Int) == (s.size : Int)) = true := by simp; omega
        have hfin : A = ([], 0, 7) := by
          rw [← HG.out, HM.out]
          exact takeG_end _ _ _ _ (by rw [HLL.out]; omega)
        subst hfin
        clear hown
        go_wp2_with fail
        go_ret3
        exact ⟨rfl, hbel⟩
    · have e : k = n := by omega
      subst e
      have hfin : A = (o, u, 0) := by rw [← HG.out, Nat.sub_self, takeG_zero]
      subst hfin
      have hcv := convert_own hown
      clear hown
      go_wp2_with fail
      go_ret3
      exact ⟨rfl, hbel⟩
end Bw
end Go.Proofs.YtkfgcedbdfjofabDoor
