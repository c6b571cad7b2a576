/- The law BitsJoin returns true for all two texts: of two rows behind one another the number is the first one's, moved up, and the second one's. -/
import Derived.Test.YtcoemhndpmdccalBitsRowed
namespace Go.Proofs.Ytcoemhndpmdccal
open Go.ChangeShapes Go.WideShapes Go.ChangeAt Go.RowKit
namespace Bw
open Bm

theorem bel3 {w a b c : World} (h1 : Below w.heap.size w a) (h2 : Below a.heap.size a b) (h3 : Below b.heap.size b c) : Below w.heap.size w c :=
  h1.trans ((h2.trans (h3.mono h2.size)).mono h1.size)

theorem ret_bool {b : Bool} (h : b = true) : Ending.returned (.bool b) = .returned (.bool true) := by rw [h]
theorem no_wrap {X y : Int} (h0 : 0 ≤ X) (h1 : X + y < 2 ^ 62) (h2 : 0 ≤ y) : (X + y == wrap64 (wrap64 X + y)) = true := by
  rw [beq_iff_eq]
  have e1 : wrap64 X = X := by unfold wrap64; omega
  rw [e1]; unfold wrap64; omega

set_option maxHeartbeats 1000000 in
theorem join_a (a b : ByteArray) (w : World) (ha : a.size ≤ maxLen) (hb : b.size ≤ maxLen) (h : numE a.data.toList ≠ 0) :
    Calls Try.prog 3 #[.string a, .string b] w fun e w' => e = .returned (.bool true) ∧ Below w.heap.size w w' := by
  have HA : Hid (a.size ≤ maxLen) := ha
  have HB : Hid (b.size ≤ maxLen) := hb
  have h' : (numE a.data.toList == 0) = false := by simpa using h
  clear ha hb
  go_enter Try.func3, Try.ntmps3
  go_wp2_with fail
  refine (number_any a _ HA.out).mono ?_
  rintro e w1 ⟨rfl, hb1⟩
  go_wp2_with fail
  refine (number_any b _ HB.out).mono ?_
  rintro e w2 ⟨rfl, hb2⟩
  go_wp2_with fail
  refine (rowed_any _).mono ?_
  rintro e w3 ⟨rfl, hb3⟩
  go_wp2_with fail
  refine (rowed_any _).mono ?_
  rintro e w4 ⟨rfl, hb4⟩
  go_wp2_with fail
  go_ret
  exact ⟨rfl, bel3 hb1 hb2 (hb3.trans (hb4.mono hb3.size))⟩

set_option maxHeartbeats 1000000 in
theorem join_b (a b : ByteArray) (w : World) (ha : a.size ≤ maxLen) (hb : b.size ≤ maxLen) (hz : numE a.data.toList = 0) (h : numE b.data.toList ≠ 0) :
    Calls Try.prog 3 #[.string a, .string b] w fun e w' => e = .returned (.bool true) ∧ Below w.heap.size w w' := by
  have HA : Hid (a.size ≤ maxLen) := ha
  have HB : Hid (b.size ≤ maxLen) := hb
  have h' : (numE b.data.toList == 0) = false := by simpa using h
  have hnum := fun W => number_any a W ha
  rw [hz] at hnum
  clear ha hb hz
  go_enter Try.func3, Try.ntmps3
  go_wp2_with fail
  refine (hnum _).mono ?_
  rintro e w1 ⟨rfl, hb1⟩
  clear hnum
  go_wp2_with fail
  refine (number_any b _ HB.out).mono ?_
  rintro e w2 ⟨rfl, hb2⟩
  go_wp2_with fail
  refine (rowed_any _).mono ?_
  rintro e w3 ⟨rfl, hb3⟩
  go_wp2_with fail
  refine (rowed_any _).mono ?_
  rintro e w4 ⟨rfl, hb4⟩
  go_wp2_with fail
  go_ret
  exact ⟨rfl, bel3 hb1 hb2 (hb3.trans (hb4.mono hb3.size))⟩

theorem small_of_numE {s : ByteArray} (h : numE s.data.toList = 0) : s.size ≤ 62 ∧ rowB s.data.toList = true ∧ numV s.data.toList = val s.data.toList := by
  rcases number_shape s with ⟨_, h62, hrow, _, hV⟩ | ⟨_, _, hE, _⟩ | ⟨hc, hE, _⟩
  · exact ⟨h62, hrow, hV⟩
  · omega
  · omega

set_option maxHeartbeats 1000000 in
theorem join_long (a b : ByteArray) (w : World) (hza : numE a.data.toList = 0) (hzb : numE b.data.toList = 0) (h : 62 < a.size + b.size) :
    Calls Try.prog 3 #[.string a, .string b] w fun e w' => e = .returned (.bool true) ∧ Below w.heap.size w w' := by
  have ha := (small_of_numE hza).1
  have hb := (small_of_numE hzb).1
  have hnum := fun W => number_any a W (by unfold maxLen; omega)
  rw [hza] at hnum
  have hnumb := fun W => number_any b W (by unfold maxLen; omega)
  rw [hzb] at hnumb
  clear hza hzb
  go_enter Try.func3, Try.ntmps3
  go_wp2_with fail
  refine (hnum _).mono ?_
  rintro e w1 ⟨rfl, hb1⟩
  clear hnum
  go_wp2_with fail
  refine (hnumb _).mono ?_
  rintro e w2 ⟨rfl, hb2⟩
  clear hnumb
  go_wp2_with fail
  refine (rowed_any _).mono ?_
  rintro e w3 ⟨rfl, hb3⟩
  go_wp2_with fail
  refine (rowed_any _).mono ?_
  rintro e w4 ⟨rfl, hb4⟩
  go_wp2_with fail
  go_ret
  exact ⟨rfl, bel3 hb1 hb2 (hb3.trans (hb4.mono hb3.size))⟩

theorem cat_list (a b : ByteArray) : (a ++ b).data.toList = a.data.toList ++ b.data.toList := by
  simp [ByteArray.data_append]

theorem cat_num {a b : ByteArray} (hza : numE a.data.toList = 0) (hzb : numE b.data.toList = 0) (h : a.size + b.size ≤ 62) :
    numE (a ++ b).data.toList = 0 ∧ numV (a ++ b).data.toList = numV a.data.toList * 2 ^ b.size + numV b.data.toList := by
  obtain ⟨_, ra, va⟩ := small_of_numE hza
  obtain ⟨_, rb, vb⟩ := small_of_numE hzb
  have hr : rowB (a ++ b).data.toList = true := by rw [cat_list, rowB_append, ra, rb]; rfl
  have hsz : (a ++ b).data.toList.length ≤ 62 := by rw [cat_list, List.length_append]; simpa using h
  have hc : checkE (a ++ b).data.toList = 0 := by unfold checkE; rw [if_neg (by omega), if_pos hr]
  have hE : numE (a ++ b).data.toList = 0 := by unfold numE; rw [if_pos hc, if_neg (by omega)]
  refine ⟨hE, ?_⟩
  unfold numV
  rw [if_pos hE, if_pos hza, if_pos hzb, cat_list, val_append]
  simp

theorem numV_bound {a : ByteArray} (hza : numE a.data.toList = 0) : 0 ≤ numV a.data.toList ∧ numV a.data.toList < 2 ^ a.size := by
  obtain ⟨_, ra, va⟩ := small_of_numE hza
  have := val_lt _ ra
  rw [va]
  have e : a.data.toList.length = a.size := by simp
  rw [e] at this
  exact ⟨by omega, by exact_mod_cast this⟩

set_option maxHeartbeats 1000000 in
theorem join_on (a b : ByteArray) (w : World) (hza : numE a.data.toList = 0) (hzb : numE b.data.toList = 0) (h : a.size + b.size ≤ 62) :
    Calls Try.prog 3 #[.string a, .string b] w fun e w' => e = .returned (.bool true) ∧ Below w.heap.size w w' := by
  have hnum := fun W => number_any a W (by unfold maxLen; omega)
  rw [hza] at hnum
  have hnumb := fun W => number_any b W (by unfold maxLen; omega)
  rw [hzb] at hnumb
  have hnumc := fun W => number_any (a ++ b) W (by rw [ByteArray.size_append]; unfold maxLen; omega)
  obtain ⟨hE, hV⟩ := cat_num hza hzb h
  have na := numV_bound hza
  have nb := numV_bound hzb
  have hlt : numV a.data.toList * 2 ^ b.size + numV b.data.toList < 2 ^ 62 := by
    rw [← hV]
    have := numV_bound hE
    have h2 : (2 : Nat) ^ (a ++ b).size ≤ 2 ^ 62 := Nat.pow_le_pow_right (by omega) (by rw [ByteArray.size_append]; omega)
    have h3 : (2 : Int) ^ (a ++ b).size ≤ 2 ^ 62 := by exact_mod_cast h2
    omega
  rw [hE, hV] at hnumc
  generalize numV a.data.toList = x at *
  generalize numV b.data.toList = y at *
  have hp : 0 ≤ x * 2 ^ b.size := Int.mul_nonneg na.1 (Int.le_of_lt (Int.pow_pos (by omega)))
  have HP : Hid (0 ≤ x * 2 ^ b.size) := hp
  have HL : Hid (x * 2 ^ b.size + y < 2 ^ 62) := hlt
  have HY : Hid (0 ≤ y) := nb.1
  have hmin : min b.size 64 = b.size := by omega
  clear hza hzb hE hV na nb hlt hp
  go_enter Try.func3, Try.ntmps3
  go_wp2_with fail
  refine (hnum _).mono ?_
  rintro e w1 ⟨rfl, hb1⟩
  clear hnum
  go_wp2_with fail
  refine (hnumb _).mono ?_
  rintro e w2 ⟨rfl, hb2⟩
  clear hnumb
  go_wp2_with fail
  refine (rowed_any _).mono ?_
  rintro e w3 ⟨rfl, hb3⟩
  go_wp2_with fail
  refine (hnumc _).mono ?_
  rintro e w4 ⟨rfl, hb4⟩
  clear hnumc
  go_wp2_with fail
  go_ret
  exact ⟨ret_bool (no_wrap HP.out HL.out HY.out), bel3 hb1 hb2 (hb3.trans (hb4.mono hb3.size))⟩

theorem join_any (a b : ByteArray) (w : World) (ha : a.size ≤ maxLen) (hb : b.size ≤ maxLen) :
    Calls Try.prog 3 #[.string a, .string b] w fun e w' => e = .returned (.bool true) ∧ Below w.heap.size w w' := by
  by_cases h1 : numE a.data.toList = 0
  · by_cases h2 : numE b.data.toList = 0
    · by_cases h3 : 62 < a.size + b.size
      · exact join_long a b w h1 h2 h3
      · exact join_on a b w h1 h2 (by omega)
    · exact join_b a b w ha hb h1 h2
  · exact join_a a b w ha hb h1
end Bw
end Go.Proofs.Ytcoemhndpmdccal
namespace Go.Proofs.Ytcoemhndpmdccal.bitsJoin
theorem walk (a0 a1 : ByteArray) (w : World) (w0 : a0.size ≤ maxLen) (w1 : a1.size ≤ maxLen) :
    Calls Try.prog 3 #[.string a0, .string a1] w fun e w' => e = .returned (.bool true) ∧ RowKit.Below w.heap.size w w' := Bw.join_any a0 a1 w w0 w1
end Go.Proofs.Ytcoemhndpmdccal.bitsJoin
