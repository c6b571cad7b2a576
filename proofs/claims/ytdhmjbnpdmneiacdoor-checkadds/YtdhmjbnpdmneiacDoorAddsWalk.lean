/- The law CheckAdds returns true for every kind and every three texts, where the table of kinds lies as its initialiser lays it. -/
import Derived.Test.YtdhmjbnpdmneiacDoorLawXor
import Derived.Test.YtdhmjbnpdmneiacDoorSummed
import Derived.BigQuiet
namespace Go.Proofs.YtdhmjbnpdmneiacDoor
open Go.ChangeShapes Go.WideShapes Go.ChangeAt Go.RowKit
namespace Bw
open Bm Cm

theorem Below.drewN' (w : World) (n : Nat) : Below w.heap.size w (w.drewN n) := ⟨rfl, rfl, rfl, Nat.le_refl _, fun _ _ => rfl⟩
theorem sum_all (k : Int) (b : ByteArray) (w : World) (hb : b.size ≤ maxLen) (hR : RulesAt w) :
    Calls Tryd.prog 7 #[.int .i64 k, .string b] w fun e w' => ∃ (T : ByteArray) (x : Int), e = .returned (.tuple #[.string T, .int .i64 x]) ∧
      (x = 0 → 0 ≤ k ∧ k ≤ 4 ∧ checkE b.data.toList = 0 ∧ T.data.toList = sumL k.toNat b.data.toList) ∧ Below w.heap.size w w' := by
  by_cases hc : checkE b.data.toList = 0
  · by_cases hk : k < 0 ∨ 4 < k
    · exact (sum_who k b w hb hc hk).mono fun e w' ⟨h1, h2⟩ => ⟨_, _, h1, (fun h => by cases h), h2⟩
    · obtain ⟨kd, rfl⟩ : ∃ kd : Nat, k = (kd : Int) := ⟨k.toNat, by omega⟩
      exact (sum_ok kd b w hR hc (by omega)).mono fun e w' ⟨h1, h2⟩ => ⟨_, _, h1, (fun _ => ⟨by omega, by omega, hc, by simp⟩), h2⟩
  · exact (sum_bad k b w hb hc).mono fun e w' ⟨h1, h2⟩ => ⟨_, _, h1, (fun h => absurd h hc), h2⟩
theorem adds_eq (k : Nat) (hk : k ≤ 4) (a b c : List UInt8) (h1 : a.length = b.length) (h2 : b.length = c.length) (ha : rowB a = true) (hb : rowB b = true) (hc : rowB c = true) :
    xorL (xorL (sumL k a) (sumL k b)) (sumL k c) = sumL k (xorL (xorL a b) c) := by
  have r : ∀ l, rowB (sumL k l) = true := fun l => bitsHead_row _ _ _
  have n : ∀ l, (sumL k l).length = kS k := fun l => bitsHead_length _ _ _
  have v : ∀ l, val (sumL k l) = sumV k l := fun l => val_row _ _ (sumV_lt k hk l)
  have e1 : (sumL k a).length = (sumL k b).length := by rw [n, n]
  have x1 := xorL_row _ _ e1 (r a) (r b)
  have l1 := xorL_len _ _ e1
  have e2 : (xorL (sumL k a) (sumL k b)).length = (sumL k c).length := by rw [l1, n, n]
  have x2 := xorL_row _ _ e2 x1 (r c)
  have l2 := xorL_len _ _ e2
  refine (row_is _ (sumV k (xorL (xorL a b) c)) (kS k) x2 (by rw [l2, l1, n]) (sumV_lt k hk _)).2 ?_
  rw [xorL_val _ _ e2 x1 (r c), xorL_val _ _ e1 (r a) (r b), v, v, v, sumV_adds k hk a b c h1 h2 ha hb hc]

set_option maxHeartbeats 4000000 in
theorem adds_any (k : Int) (a b c : ByteArray) (w : World) (ha : a.size ≤ maxLen) (hR : RulesAt w) :
    Calls Tryd.prog 3 #[.int .i64 k, .string a, .string b, .string c] w fun e w' => e = .returned (.bool true) ∧ Below w.heap.size w w' := by
  have HR := Hid.mk hR
  obtain ⟨n, hn⟩ : ∃ n, n = min (min a.size b.size) c.size := ⟨_, rfl⟩
  have hna : n ≤ a.size := by omega
  have hnb : n ≤ b.size := by omega
  have hnc : n ≤ c.size := by omega
  have hnm : n ≤ 9223372036854775807 := by unfold maxLen at ha; omega
  have hmin : ∀ ts t W, (Builtin.min_ ts t #[.int .i64 (a.size : Int), .int .i64 (b.size : Int), .int .i64 (c.size : Int)]).run Tryd.prog W = .ok (.int .i64 (n : Int)) W := by
    intro ts t W
    simp [Builtin.min_, Builtin.min2]
    split <;> split <;> omega
  have hsl : ∀ (x : ByteArray), n ≤ x.size → ∀ W, (Instr.slice 9 (.string x) none (some (.int .i64 (n : Int))) none).run Tryd.prog W = .ok (.string (x.extract 0 n)) W := by
    intro x hx W
    rw [run_slice_string_h W _ x Tryd.underlying9 .i64 _ (by omega) (by omega)]; rfl
  have hxt : ∀ (x : ByteArray), n ≤ x.size → (x.extract 0 n).data.toList = x.data.toList.take n ∧ (x.extract 0 n).size = n := by
    intro x hx
    have e : (x.extract 0 n).data.toList = x.data.toList.take n := by
      have := extract_list x 0 n
      rw [Nat.zero_add] at this
      rw [this, List.drop_zero]
    have hl : x.data.toList.length = x.size := by simp
    exact ⟨e, by rw [ba_size e, List.length_take]; omega⟩
  have ka := hsl a hna
  have kb := hsl b hnb
  have kc := hsl c hnc
  obtain ⟨ea, la⟩ := hxt a hna
  obtain ⟨eb, lb⟩ := hxt b hnb
  obtain ⟨ec, lc⟩ := hxt c hnc
  generalize a.extract 0 n = A at *
  generalize b.extract 0 n = B at *
  generalize c.extract 0 n = C at *
  have hml : n ≤ maxLen := Nat.le_trans hna ha
  have LA := Hid.mk la
  have LB := Hid.mk lb
  have LC := Hid.mk lc
  have HML := Hid.mk hml
  clear hR hsl hxt ea eb ec la lb lc hn ha hml
  go_enter Tryd.func3, Tryd.ntmps3
  go_wp2_with fail
  go_quiet (fail)
  clear hmin ka kb kc hna hnb hnc
  have hb0 : Below w.heap.size w (w.drewN nq) := Below.drewN' w nq
  generalize w.drewN nq = w0 at *
  go_wp2_with fail
  refine (sum_all k A w0 (by rw [LA.out]; exact HML.out) (HR.out.kept hb0)).mono ?_
  rintro e w1 ⟨T1, x1, rfl, hx1, hb1⟩
  have hbel1 := bl2 hb0 hb1
  have HX1 := Hid.mk hx1
  clear hx1 hb0 hb1
  go_wp2_with fail
  refine (sum_all k B w1 (by rw [LB.out]; exact HML.out) (HR.out.kept hbel1)).mono ?_
  rintro e w2 ⟨T2, x2, rfl, hx2, hb2⟩
  have hbel2 := bl2 hbel1 hb2
  have HX2 := Hid.mk hx2
  clear hx2 hbel1 hb2
  go_wp2_with fail
  refine (sum_all k C w2 (by rw [LC.out]; exact HML.out) (HR.out.kept hbel2)).mono ?_
  rintro e w3 ⟨T3, x3, rfl, hx3, hb3⟩
  have hbel3 := bl2 hbel2 hb3
  have HX3 := Hid.mk hx3
  clear hx3 hbel2 hb3
  go_wp2_with fail
  refine (summed_any w3 (HR.out.kept hbel3)).mono ?_
  rintro e w4 ⟨rfl, hb4⟩
  have hbel4 := bl2 hbel3 hb4
  clear hbel3 hb4
  by_cases h0 : x1 = 0 ∧ x2 = 0 ∧ x3 = 0
  · obtain ⟨rfl, rfl, rfl⟩ := h0
    obtain ⟨k0, k4, cA, tA⟩ := HX1.out rfl
    obtain ⟨_, _, cB, tB⟩ := HX2.out rfl
    obtain ⟨_, _, cC, tC⟩ := HX3.out rfl
    obtain ⟨kd, rfl⟩ : ∃ kd : Nat, k = (kd : Int) := ⟨k.toNat, by omega⟩
    rw [Int.toNat_natCast] at tA tB tC
    have hkd : kd ≤ 4 := by omega
    obtain ⟨hA1, rA⟩ := small_of_check cA
    obtain ⟨hB1, rB⟩ := small_of_check cB
    obtain ⟨hC1, rC⟩ := small_of_check cC
    have s1 : A.data.toList.length = B.data.toList.length := by
      rw [Array.length_toList, Array.length_toList]; show A.size = B.size; rw [LA.out, LB.out]
    have s2 : B.data.toList.length = C.data.toList.length := by
      rw [Array.length_toList, Array.length_toList]; show B.size = C.size; rw [LB.out, LC.out]
    have c1 := fun W => xor_any A B W (by rw [LA.out, LB.out]) hA1
    have u1 : (ByteArray.mk (xorL A.data.toList B.data.toList).toArray).data.toList = xorL A.data.toList B.data.toList := by simp
    have u1s : (ByteArray.mk (xorL A.data.toList B.data.toList).toArray).size = n := by rw [ba_size u1, xorL_len _ _ s1, Array.length_toList]; exact LA.out
    generalize ByteArray.mk (xorL A.data.toList B.data.toList).toArray = U1 at *
    have c2 := fun W => xor_any U1 C W (by rw [u1s, LC.out]) (by rw [u1s, ← LA.out]; exact hA1)
    rw [u1] at c2
    have u2 : (ByteArray.mk (xorL (xorL A.data.toList B.data.toList) C.data.toList).toArray).data.toList = xorL (xorL A.data.toList B.data.toList) C.data.toList := by simp
    have s3 : (xorL A.data.toList B.data.toList).length = C.data.toList.length := by rw [xorL_len _ _ s1, s1, s2]
    have r2 := xorL_row _ _ s3 (xorL_row _ _ s1 rA rB) rC
    have u2l : (xorL (xorL A.data.toList B.data.toList) C.data.toList).length ≤ 1000 := by rw [xorL_len _ _ s3, xorL_len _ _ s1, Array.length_toList]; exact hA1
    generalize ByteArray.mk (xorL (xorL A.data.toList B.data.toList) C.data.toList).toArray = U2 at *
    have c3 := fun W hW => sum_ok kd U2 W hW (by rw [u2]; exact checkE_row r2 u2l) hkd
    rw [u2] at c3
    have n1 : T1.size = kS kd := by rw [ba_size tA]; exact bitsHead_length _ _ _
    have n2 : T2.size = kS kd := by rw [ba_size tB]; exact bitsHead_length _ _ _
    have n3 : T3.size = kS kd := by rw [ba_size tC]; exact bitsHead_length _ _ _
    have hs21 := (kinds_ok kd hkd).2.1
    have c4 := fun W => xor_any T1 T2 W (by rw [n1, n2]) (by omega)
    rw [tA, tB] at c4
    have u4 : (ByteArray.mk (xorL (sumL kd A.data.toList) (sumL kd B.data.toList)).toArray).data.toList = xorL (sumL kd A.data.toList) (sumL kd B.data.toList) := by simp
    have u4s : (ByteArray.mk (xorL (sumL kd A.data.toList) (sumL kd B.data.toList)).toArray).size = kS kd := by
      rw [ba_size u4, xorL_len _ _ (by rw [← tA, ← tB, Array.length_toList, Array.length_toList]; show T1.size = T2.size; rw [n1, n2])]; exact bitsHead_length _ _ _
    generalize ByteArray.mk (xorL (sumL kd A.data.toList) (sumL kd B.data.toList)).toArray = U4 at *
    have c5 := fun W => xor_any U4 T3 W (by rw [u4s, n3]) (by omega)
    rw [u4, tC, adds_eq kd hkd _ _ _ s1 s2 rA rB rC] at c5
    generalize ByteArray.mk (sumL kd (xorL (xorL A.data.toList B.data.toList) C.data.toList)).toArray = S at *
    have C1 := Hid.mk c1
    have C2 := Hid.mk c2
    have C3 := Hid.mk c3
    have C4 := Hid.mk c4
    have C5 := Hid.mk c5
    clear c1 c2 c3 c4 c5 u1 u1s u2 u2l r2 s1 s2 s3 n1 n2 n3 u4 u4s tA tB tC cA cB cC rA rB rC hA1 hB1 hC1 HX1 HX2 HX3 LA LB LC
    go_wp2_with fail
    refine (C1.out w4).mono ?_
    rintro e w5 ⟨rfl, hb5⟩
    have hbel5 := bl2 hbel4 hb5
    clear hbel4 hb5
    go_wp2_with fail
    refine (C2.out w5).mono ?_
    rintro e w6 ⟨rfl, hb6⟩
    have hbel6 := bl2 hbel5 hb6
    clear hbel5 hb6
    go_wp2_with fail
    refine (C3.out w6 (HR.out.kept hbel6)).mono ?_
    rintro e w7 ⟨rfl, hb7⟩
    have hbel7 := bl2 hbel6 hb7
    clear hbel6 hb7
    go_wp2_with fail
    refine (C4.out w7).mono ?_
    rintro e w8 ⟨rfl, hb8⟩
    have hbel8 := bl2 hbel7 hb8
    clear hbel7 hb8
    go_wp2_with fail
    refine (C5.out w8).mono ?_
    rintro e w9 ⟨rfl, hb9⟩
    have hbel9 := bl2 hbel8 hb9
    clear hbel8 hb9
    go_wp2_with fail
    go_ret
    exact ⟨ret_bool (by simp), hbel9⟩
  · have hany : (x1 != 0) = true ∨ (x1 != 0) = false ∧ (x2 != 0) = true ∨ (x1 != 0) = false ∧ (x2 != 0) = false ∧ (x3 != 0) = true := by
      by_cases h1 : x1 = 0
      · by_cases h2 : x2 = 0
        · have h3 : x3 ≠ 0 := fun h => h0 ⟨h1, h2, h⟩
          exact .inr (.inr ⟨by simpa using h1, by simpa using h2, by simpa using h3⟩)
        · exact .inr (.inl ⟨by simpa using h1, by simpa using h2⟩)
      · exact .inl (by simpa using h1)
    clear h0
    rcases hany with h1 | ⟨h1, h2⟩ | ⟨h1, h2, h3⟩
    all_goals focus
      go_wp2_with fail
      refine (summed_any w4 (HR.out.kept hbel4)).mono ?_
      rintro e w5 ⟨rfl, hb5⟩
      have hbel5 := bl2 hbel4 hb5
      clear hbel4 hb5
      go_wp2_with fail
      go_ret
      exact ⟨rfl, hbel5⟩
end Bw
end Go.Proofs.YtdhmjbnpdmneiacDoor
