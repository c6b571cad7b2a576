/- What stuff.Fixed answers of any text and any byte: a bit ahead of each fourth, and else which error. -/
import Derived.Test.YtnhnemmddgofnaaDoorC3
import Derived.Test.YtnhnemmddgofnaaDoorC5
namespace Go.Proofs.YtnhnemmddgofnaaDoor
open Go.ChangeShapes Go.WideShapes Go.ChangeAt Go.RowKit
namespace Bw
open Bm

set_option maxHeartbeats 1000000 in
theorem fixed_bad (s : ByteArray) (a : Int) (w : World) (hs : s.size ≤ maxLen) (hc : checkE s.data.toList ≠ 0) :
    Calls Tryd.prog 67 #[.string s, .int .u8 a] w fun e w' => e = .returned (.tuple #[.string ⟨#[]⟩, .int .i64 (checkE s.data.toList)]) ∧ Below w.heap.size w w' := by
  have HS := Hid.mk hs
  have hc' : (checkE s.data.toList == 0) = false := by simpa using hc
  clear hs
  go_enter Tryd.func67, Tryd.ntmps67
  go_wp2_with fail
  refine (check_any s w HS.out).mono ?_
  rintro e w1 ⟨rfl, hb1⟩
  go_wp2_with fail
  go_ret2
  exact ⟨rfl, hb1⟩

set_option maxHeartbeats 1000000 in
theorem fixed_range (s : ByteArray) (a : Int) (w : World) (hc : checkE s.data.toList = 0) (h0 : a ≠ 48) (h1 : a ≠ 49) :
    Calls Tryd.prog 67 #[.string s, .int .u8 a] w fun e w' => e = .returned (.tuple #[.string ⟨#[]⟩, .int .i64 3]) ∧ Below w.heap.size w w' := by
  obtain ⟨h1000, hrow⟩ := small_of_check hc
  have hck := fun W => check_any s W (by unfold maxLen; omega)
  rw [hc] at hck
  have h0' : (a != 48) = true := by simpa using h0
  have h1' : (a != 49) = true := by simpa using h1
  clear hc hrow h0 h1
  go_enter Tryd.func67, Tryd.ntmps67
  go_wp2_with fail
  refine (hck w).mono ?_
  rintro e w1 ⟨rfl, hb1⟩
  clear hck
  go_wp2_with fail
  go_ret2
  exact ⟨rfl, hb1⟩

theorem bit_bools {c : UInt8} (h : bit c = true) : ((c.toNat : Int) != 48 && (c.toNat : Int) != 49) = false := by
  rcases (bit_iff c).1 h with h | h <;> rw [h] <;> rfl

set_option maxHeartbeats 8000000 in
theorem fixed_ok (s : ByteArray) (a : UInt8) (w : World) (hc : checkE s.data.toList = 0) (ha : bit a = true) :
    Calls Tryd.prog 67 #[.string s, .int .u8 a.toNat] w fun e w' => e = .returned (.tuple #[.string ⟨(fixR s.data.toList a s.size).toArray⟩, .int .i64 0]) ∧ Below w.heap.size w w' := by
  obtain ⟨i0, hi, hz0, hz1, hz2⟩ := info_parts info_u8
  obtain ⟨h1000, hrow⟩ := small_of_check hc
  have hck := fun W => check_any s W (by unfold maxLen; omega)
  rw [hc] at hck
  have HR := Hid.mk hrow
  have HA := Hid.mk ha
  have hll : s.data.toList.length = s.size := by simp
  have HLL := Hid.mk hll
  have hab : ((a.toNat : Int) != 48) = false ∨ (((a.toNat : Int) != 48) = true ∧ ((a.toNat : Int) != 49) = false) := by
    rcases (bit_iff a).1 ha with h | h
    · left; rw [h]; rfl
    · right; rw [h]; exact ⟨rfl, rfl⟩
  clear hc hrow ha hll
  go_enter Tryd.func67, Tryd.ntmps67
  go_wp2_with fail
  refine (hck w).mono ?_
  rintro e w1 ⟨rfl, hb1⟩
  clear hck
  have hw1 := hb1.size
  rcases hab with hab | ⟨hab, hab2⟩
  all_goals focus
    go_wp2_with fail
    go_loopw [1, 7, 22] (fun av r i wr => ∃ k : Nat, k ≤ s.size ∧ i = .int .i64 k ∧ av = .int .u8 (fixP s.data.toList a k).toNat ∧ wr.ownsRow w.heap.size 5 1 r (fixR s.data.toList a k).length (cellsOf (fixR s.data.toList a k)) ∧ Below w.heap.size w wr) (fun _ _ i _ => s.size - (intOf i).toNat)
    case atStart => exact ⟨0, Nat.zero_le _, rfl, rfl, World.ownsRow_nil _ _ _ _, hb1⟩
    case round =>
      obtain ⟨k, hk, rfl, rfl, hown, hbel⟩ := hrel
      obtain ⟨o, ho⟩ : ∃ o, o = fixR s.data.toList a k := ⟨_, rfl⟩
      obtain ⟨p, hp⟩ : ∃ p, p = fixP s.data.toList a k := ⟨_, rfl⟩
      rw [← ho] at hown
      rw [← hp]
      have hsz := hbel.size
      have hol : o.length ≤ 2000 := by
        have := fixR_len s.data.toList a k
        rw [← ho] at this
        omega
      have hpb : bit p = true := by
        rw [hp]
        cases k with
        | zero => exact HA.out
        | succ k => rw [show fixP s.data.toList a (k + 1) = s.data.toList.getD k 0 from rfl, ← at_getD s k (by omega)]; exact rowB_at HR.out k (by omega)
      have HO := Hid.mk ho
      have HP := Hid.mk hp
      have HPB := Hid.mk hpb
      clear ho hp hpb
      by_cases hlt : k < s.size
      · have hlt' : (k : Int) < (s.size : Int) := by omega
        obtain ⟨c, hcE⟩ : ∃ c, c = s[k] := ⟨_, rfl⟩
        have hgd : s.data.toList.getD k 0 = c := by rw [hcE, at_getD s k hlt]
        have hP2 : fixP s.data.toList a (k + 1) = c := hgd
        have HP2 := Hid.mk hP2
        have HGD := Hid.mk hgd
        have hcv : s[k] = c := hcE.symm
        clear hcE hgd hP2
        by_cases h4 : k % 4 = 0
        · have h4' : ((k : Int) % 4 == 0) = true := by simp; omega
          have hnext : fixR s.data.toList a (k + 1) = o ++ [otb p] ++ [c] := by rw [fixR, if_pos h4, ← HO.out, ← HP.out, HGD.out]
          have HN := Hid.mk hnext
          clear hnext h4
          go_wp2_with fail
          refine (otherS_any p _ HPB.out).mono ?_
          rintro e w2 ⟨rfl, hw2⟩
          subst hw2
          have hol2 : (o ++ [otb p]).length ≤ 2001 := by rw [List.length_append]; simp; omega
          go_wp2_with (first
            | (at_builtin; refine wpList_append_own _ rfl (.tmp 28) (.tmp 31) 78 rfl w.heap.size 5 i0 (.int .u8 0) 1 1 Tryd.underlying78 hi hz0 hz1 hz2 rfl (by decide) _ _ _ rfl (hown.alloc _) ⟨w2.heap.size, 0, none⟩ 1 1 [Value.int .u8 (otb p).toNat] rfl rfl (by intro q u hq; match q, hq with | 0, hq => (simp at hq; subst hq; simp [Addr.add])) (by intro u hu; simp at hu; subst hu; rfl) (by unfold maxLen; omega) (by omega) (by simp; omega) ?_; intro v1 w3 hown1 hgrow1 _
               have hbel3 : Below w.heap.size w w3 := Below.grown (hbel.alloc hsz _) hgrow1 (by simp; omega) (fun q hq => (hown.lt q hq).1)
               have hown1' : w3.ownsRow w.heap.size 5 1 v1 (o ++ [otb p]).length (cellsOf (o ++ [otb p])) := by
                 rw [cellsOf_append, List.length_append]; exact hown1
               have hsz3 := hbel3.size
               clear hown hown1 hgrow1 hbel hsz)
            | (at_builtin; refine wpList_append_own _ rfl (.tmp 33) (.tmp 37) 78 rfl w.heap.size 5 i0 (.int .u8 0) 1 1 Tryd.underlying78 hi hz0 hz1 hz2 rfl (by decide) _ _ _ rfl (hown1'.alloc _) ⟨w3.heap.size, 0, none⟩ 1 1 [Value.int .u8 c.toNat] rfl rfl (by intro q u hq; match q, hq with | 0, hq => (simp at hq; subst hq; simp [Addr.add])) (by intro u hu; simp at hu; subst hu; rfl) (by unfold maxLen; omega) (by omega) (by simp; omega) ?_; intro v4 w4 hown4 hgrow4 _))
          have hbel4 : Below w.heap.size w w4 := Below.grown (hbel3.alloc hsz3 _) hgrow4 (by simp; omega) (fun q hq => (hown1'.lt q hq).1)
          have hown4' : w4.ownsRow w.heap.size 5 1 v4 (o ++ [otb p] ++ [c]).length (cellsOf (o ++ [otb p] ++ [c])) := by
            rw [cellsOf_append, show (o ++ [otb p] ++ [c]).length = (o ++ [otb p]).length + 1 from List.length_append ..]; exact hown4
          clear hown1' hown4 hgrow4 hbel3 hsz3
          go_wp2_with fail
          go_roundw
          case rel => exact ⟨k + 1, by omega, by go_num, by rw [HP2.out], by rw [HN.out]; exact hown4', hbel4⟩
          case measure => simp [intOf]; omega
        · have h4' : ((k : Int) % 4 == 0) = false := by rw [beq_eq_false_iff_ne]; omega
          have hnext : fixR s.data.toList a (k + 1) = o ++ [c] := by rw [fixR, if_neg h4, ← HO.out, HGD.out]
          have HN := Hid.mk hnext
          clear hnext h4
          go_wp2_with (at_builtin; refine wpList_append_own _ rfl (.tmp 33) (.tmp 37) 78 rfl w.heap.size 5 i0 (.int .u8 0) 1 1 Tryd.underlying78 hi hz0 hz1 hz2 rfl (by decide) _ _ _ rfl (hown.alloc _) ⟨wr.heap.size, 0, none⟩ 1 1 [Value.int .u8 c.toNat] rfl rfl (by intro q u hq; match q, hq with | 0, hq => (simp at hq; subst hq; simp [Addr.add])) (by intro u hu; simp at hu; subst hu; rfl) (by unfold maxLen; omega) (by omega) (by simp; omega) ?_; intro v4 w4 hown4 hgrow4 _)
          have hbel4 : Below w.heap.size w w4 := Below.grown (hbel.alloc hsz _) hgrow4 (by simp; omega) (fun q hq => (hown.lt q hq).1)
          have hown4' : w4.ownsRow w.heap.size 5 1 v4 (o ++ [c]).length (cellsOf (o ++ [c])) := by
            rw [cellsOf_append, List.length_append]; exact hown4
          clear hown hown4 hgrow4 hbel hsz
          go_wp2_with fail
          go_roundw
          case rel => exact ⟨k + 1, by omega, by go_num, by rw [HP2.out], by rw [HN.out]; exact hown4', hbel4⟩
          case measure => simp [intOf]; omega
      · have e : k = s.size := by omega
        subst e
        have hfin := HO.out
        subst hfin
        have hcv := convert_own hown
        clear hown
        go_wp2_with fail
        go_ret2
        exact ⟨rfl, hbel⟩
end Bw
end Go.Proofs.YtnhnemmddgofnaaDoor
