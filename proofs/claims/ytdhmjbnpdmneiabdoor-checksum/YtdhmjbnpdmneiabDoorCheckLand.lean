/- What check.Holds answers, errors too, where the table of kinds lies as its initialiser lays it. -/
import Derived.Test.YtdhmjbnpdmneiabDoorBitsCheck
import Derived.Test.YtdhmjbnpdmneiabDoorCheckSize
import Derived.Deep.RegionWith
namespace Go.Proofs.YtdhmjbnpdmneiabDoor
open Go.ChangeShapes Go.WideShapes Go.ChangeAt Go.RowKit
namespace Bw
open Bm Cm

set_option maxHeartbeats 2000000 in
theorem holds_bad (k : Int) (b : ByteArray) (w : World) (hb : b.size ≤ maxLen) (hc : checkE b.data.toList ≠ 0) :
    Calls Tryd.prog 10 #[.int .i64 k, .string b] w fun e w' => e = .returned (.tuple #[.bool false, .int .i64 (checkE b.data.toList)]) ∧ Below w.heap.size w w' := by
  have h1 := check_any b w hb
  have hne : (checkE b.data.toList != 0) = true := by simpa using hc
  generalize checkE b.data.toList = ce at *
  go_enter Tryd.func10, Tryd.ntmps10
  go_wp2_with fail
  refine h1.mono ?_
  rintro e w1 ⟨rfl, hb1⟩
  go_wp2_with fail
  go_ret2
  exact ⟨rfl, hb1⟩
set_option maxHeartbeats 2000000 in
theorem holds_who (k : Int) (b : ByteArray) (w : World) (hb : b.size ≤ maxLen) (hc : checkE b.data.toList = 0) (hk : k < 0 ∨ 4 < k) :
    Calls Tryd.prog 10 #[.int .i64 k, .string b] w fun e w' => e = .returned (.tuple #[.bool false, .int .i64 8]) ∧ Below w.heap.size w w' := by
  have h1 := check_any b w hb
  rw [hc] at h1
  have HK := Hid.mk hk
  clear hk hc
  go_enter Tryd.func10, Tryd.ntmps10
  go_wp2_with fail
  refine h1.mono ?_
  rintro e w1 ⟨rfl, hb1⟩
  clear h1
  go_wp2_with fail
  refine (isKind_no k w1 HK.out).mono ?_
  rintro e w2 ⟨rfl, hw2⟩
  subst hw2
  go_wp2_with fail
  go_ret2
  exact ⟨rfl, hb1⟩
set_option maxHeartbeats 2000000 in
theorem holds_short (k : Nat) (b : ByteArray) (w : World) (hR : RulesAt w) (hc : checkE b.data.toList = 0) (hk : k ≤ 4) (hs : b.size < kS k) :
    Calls Tryd.prog 10 #[.int .i64 k, .string b] w fun e w' => e = .returned (.tuple #[.bool false, .int .i64 7]) ∧ Below w.heap.size w w' := by
  obtain ⟨h1000, hrow⟩ := small_of_check hc
  have h1 := check_any b w (by unfold maxLen; omega)
  rw [hc] at h1
  obtain ⟨s8, s21, p1, hp, hf, he, _⟩ := kinds_ok k hk
  have H3 := Hid.mk hR
  have hk' : (k : Int) < 5 := by omega
  have hd : decide ((b.size : Int) - (kS k : Int) < 0) = true := by simp; omega
  clear hR hc hp hf he hrow
  go_enter Tryd.func10, Tryd.ntmps10
  go_wp2_with fail
  refine h1.mono ?_
  rintro e w1 ⟨rfl, hb1⟩
  clear h1
  obtain ⟨c0, c1, c2, c3⟩ := H3.out.kept hb1 k hk
  go_wp2_with fail
  refine (isKind_yes k w1 hk).mono ?_
  rintro e w2 ⟨rfl, hw2⟩
  subst hw2
  go_wp2_with fail
  go_ret2
  exact ⟨rfl, hb1⟩
set_option maxHeartbeats 2000000 in
theorem holds_ok (k : Nat) (b : ByteArray) (w : World) (hR : RulesAt w) (hc : checkE b.data.toList = 0) (hk : k ≤ 4) (hs : kS k ≤ b.size) :
    Calls Tryd.prog 10 #[.int .i64 k, .string b] w fun e w' => e = .returned (.tuple #[.bool (decide (b.data.toList.drop (b.size - kS k) = sumL k (b.data.toList.take (b.size - kS k)))), .int .i64 0]) ∧ Below w.heap.size w w' := by
  obtain ⟨h1000, hrow⟩ := small_of_check hc
  have h1 := check_any b w (by unfold maxLen; omega)
  rw [hc] at h1
  obtain ⟨s8, s21, p1, hp, hf, he, _⟩ := kinds_ok k hk
  obtain ⟨m, hm⟩ : ∃ m, m = b.size - kS k := ⟨_, rfl⟩
  have hmb : m ≤ b.size := by omega
  have hmi : (b.size : Int) - (kS k : Int) = (m : Int) := by omega
  rw [← hm]
  have hx : (b.extract 0 m).data.toList = b.data.toList.take m := by
    rw [show m = 0 + m by omega, extract_list b 0 m]; simp
  have hxs : (b.extract 0 m).size = m := by rw [ba_size hx]; simp; omega
  have h2 := fun W => sumR_any (kS k) (kP k) (kF k) (kE k) (b.extract 0 m) W (by omega) s21 hp hf he (by omega) (by rw [hx]; exact rowB_take hrow m)
  simp only [hx] at h2
  rw [show sumL k (b.data.toList.take m) = bitsHead (crcR (kS k) (kP k) (kF k) (b.data.toList.take m) ^^^ kE k) (kS k) (kS k) from rfl]
  generalize hL : bitsHead (crcR (kS k) (kP k) (kF k) (b.data.toList.take m) ^^^ kE k) (kS k) (kS k) = L at *
  generalize hT : ByteArray.mk L.toArray = T at *
  have hTl : T.data.toList = L := by rw [← hT]
  have hdl : (b.extract m b.size).data.toList = b.data.toList.drop m := by
    have e : b.size = m + (b.size - m) := by omega
    rw [e, extract_list b m (b.size - m), List.take_of_length_le (by simp)]
  have heq : ((b.extract m b.size).toList == T.toList) = decide (b.data.toList.drop m = L) := by
    rw [ByteArray.toList_eq, ByteArray.toList_eq, hdl, hTl, Bool.eq_iff_iff, beq_iff_eq, decide_eq_true_iff]
  have HEQ := Hid.mk heq
  have H2 := Hid.mk h2
  clear hT hTl hdl heq
  have H3 := Hid.mk hR
  have HX := Hid.mk hx
  have hk' : (k : Int) < 5 := by omega
  clear hR hc hp hf he hrow h2 hx hm
  go_enter Tryd.func10, Tryd.ntmps10
  go_wp2_with fail
  refine h1.mono ?_
  rintro e w1 ⟨rfl, hb1⟩
  clear h1
  obtain ⟨c0, c1, c2, c3⟩ := H3.out.kept hb1 k hk
  go_wp2_with fail
  refine (isKind_yes k w1 hk).mono ?_
  rintro e w2 ⟨rfl, hw2⟩
  subst hw2
  have hd : decide ((m : Int) < 0) = false := by simp
  have hsl : ∀ W, (Instr.slice 9 (.string b) none (some (.int .i64 ((b.size : Int) - (kS k : Int)))) none).run Tryd.prog W = .ok (.string (b.extract 0 m)) W := by
    intro W
    rw [hmi, run_slice_string_h W _ b Tryd.underlying9 .i64 _ (by omega) (by omega)]; rfl
  have hsh : ∀ W, (Instr.slice 9 (.string b) (some (.int .i64 ((b.size : Int) - (kS k : Int)))) none none).run Tryd.prog W = .ok (.string (b.extract m b.size)) W := by
    intro W
    rw [hmi, run_slice_string_l W _ b Tryd.underlying9 .i64 _ (by omega) (by omega)]; rfl
  go_wp2_with fail
  set_option maxRecDepth 100000 in
  go_region_with (go_at_call 23; refine (H2.out _).mono ?_; rintro e w3 ⟨rfl, hb3⟩)
  all_goals focus
    have hb3' : Below w.heap.size w w3 := hb1.drew.trans (hb3.mono hb1.size)
    clear c0 c1 c2 c3 hb3 hsl
    go_wp2_with fail
    go_ret2
    refine ⟨?_, hb3'⟩
    rw [← HEQ.out]
    rfl
end Bw
end Go.Proofs.YtdhmjbnpdmneiabDoor
