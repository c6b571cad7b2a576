/- The law CheckSum returns true for every kind and every text, where the table of kinds and the table of math/bits lie as their initialisers lay them. -/
import Derived.Test.YtdhmjbnpdmneiabDoorSummed
import Derived.Test.YtdhmjbnpdmneiabDoorCheckLand
import Derived.Test.YtdhmjbnpdmneiabDoorRefCheck
import Derived.Test.YtdhmjbnpdmneiabDoorRefSum
namespace Go.Proofs.YtdhmjbnpdmneiabDoor
open Go.ChangeShapes Go.WideShapes Go.ChangeAt Go.RowKit
namespace Bw
open Bm Cm

theorem tabS' (k : Nat) (h : k ≤ 4) : (#[Value.int .i64 15, .int .i64 17, .int .i64 21, .int .i64 8, .int .i64 16] : Array Value)[k]? = some (.int .i64 (kS k)) := Ww.tabS k h

set_option maxHeartbeats 4000000 in
theorem csum_bad_neg (k : Int) (b : ByteArray) (w : World) (hb : b.size ≤ maxLen) (hR : RulesAt w) (hc : checkE b.data.toList ≠ 0) (hk : k < 0) :
    Calls Tryd.prog 4 #[.int .i64 k, .string b] w fun e w' => e = .returned (.bool true) ∧ Below w.heap.size w w' := by
  have HR := Hid.mk hR
  have HS := Hid.mk (fun W => sum_bad k b W hb hc)
  have HH := Hid.mk (fun W => holds_bad k b W hb hc)
  have HRO := Hid.mk (fun W => checkRow_any b W hb)
  have hne : (checkE b.data.toList != 0) = true := by simpa using hc
  have heq : (checkE b.data.toList == 0) = false := by simpa using hc
  have HZ := Hid.mk (fun W => size_who k W (.inl hk))
  clear hR hc hb
  generalize checkE b.data.toList = ce at *
  go_enter Tryd.func4, Tryd.ntmps4
  go_wp2_with fail
  refine (HS.out w).mono ?_
  rintro e w1 ⟨rfl, hb1⟩
  have R1 := Hid.mk (HR.out.kept hb1)
  go_wp2_with fail
  refine (HH.out w1).mono ?_
  rintro e w2 ⟨rfl, hb2⟩
  have hbel2 := bl2 hb1 hb2
  have R2 := Hid.mk (HR.out.kept hbel2)
  clear hb1 hb2
  go_wp2_with fail
  refine (HZ.out w2).mono ?_
  rintro e w3 ⟨rfl, hw3⟩
  subst hw3
  go_wp2_with fail
  refine (HRO.out w3).mono ?_
  rintro e w4 ⟨rfl, hw4⟩
  subst hw4
  go_wp2_with fail
  refine (summed_any w4 R2.out).mono ?_
  rintro e w5 ⟨rfl, hb5⟩
  have hbel5 := bl2 hbel2 hb5
  clear hb5 hbel2 R1 R2
  go_wp2_with fail
  go_ret
  exact ⟨by simp, hbel5⟩

set_option maxHeartbeats 4000000 in
theorem csum_bad_big (k : Int) (b : ByteArray) (w : World) (hb : b.size ≤ maxLen) (hR : RulesAt w) (hc : checkE b.data.toList ≠ 0) (hk : 4 < k) (hk0 : 0 ≤ k) :
    Calls Tryd.prog 4 #[.int .i64 k, .string b] w fun e w' => e = .returned (.bool true) ∧ Below w.heap.size w w' := by
  have HR := Hid.mk hR
  have HS := Hid.mk (fun W => sum_bad k b W hb hc)
  have HH := Hid.mk (fun W => holds_bad k b W hb hc)
  have HRO := Hid.mk (fun W => checkRow_any b W hb)
  have hne : (checkE b.data.toList != 0) = true := by simpa using hc
  have heq : (checkE b.data.toList == 0) = false := by simpa using hc
  have HZ := Hid.mk (fun W => size_who k W (.inr hk))
  clear hR hc hb
  generalize checkE b.data.toList = ce at *
  go_enter Tryd.func4, Tryd.ntmps4
  go_wp2_with fail
  refine (HS.out w).mono ?_
  rintro e w1 ⟨rfl, hb1⟩
  have R1 := Hid.mk (HR.out.kept hb1)
  go_wp2_with fail
  refine (HH.out w1).mono ?_
  rintro e w2 ⟨rfl, hb2⟩
  have hbel2 := bl2 hb1 hb2
  have R2 := Hid.mk (HR.out.kept hbel2)
  clear hb1 hb2
  go_wp2_with fail
  refine (HZ.out w2).mono ?_
  rintro e w3 ⟨rfl, hw3⟩
  subst hw3
  go_wp2_with fail
  refine (HRO.out w3).mono ?_
  rintro e w4 ⟨rfl, hw4⟩
  subst hw4
  go_wp2_with fail
  refine (summed_any w4 R2.out).mono ?_
  rintro e w5 ⟨rfl, hb5⟩
  have hbel5 := bl2 hbel2 hb5
  clear hb5 hbel2 R1 R2
  go_wp2_with fail
  go_ret
  exact ⟨by simp, hbel5⟩

set_option maxHeartbeats 4000000 in
theorem csum_bad_in (k : Int) (b : ByteArray) (w : World) (hb : b.size ≤ maxLen) (hR : RulesAt w) (hc : checkE b.data.toList ≠ 0) (kd : Nat) (hkd : k = (kd : Int)) (hk4 : kd ≤ 4) :
    Calls Tryd.prog 4 #[.int .i64 k, .string b] w fun e w' => e = .returned (.bool true) ∧ Below w.heap.size w w' := by
  have HR := Hid.mk hR
  have HS := Hid.mk (fun W => sum_bad k b W hb hc)
  have HH := Hid.mk (fun W => holds_bad k b W hb hc)
  have HRO := Hid.mk (fun W => checkRow_any b W hb)
  have hne : (checkE b.data.toList != 0) = true := by simpa using hc
  have heq : (checkE b.data.toList == 0) = false := by simpa using hc
  subst hkd
  have HZ := Hid.mk (fun W hW => size_ok kd W hW hk4)
  have hk4i : (kd : Int) ≤ 4 := by omega
  have hs8 := Hid.mk ((kinds_ok kd hk4).1)
  clear hR hc hb
  generalize checkE b.data.toList = ce at *
  go_enter Tryd.func4, Tryd.ntmps4
  go_wp2_with fail
  refine (HS.out w).mono ?_
  rintro e w1 ⟨rfl, hb1⟩
  have R1 := Hid.mk (HR.out.kept hb1)
  go_wp2_with fail
  refine (HH.out w1).mono ?_
  rintro e w2 ⟨rfl, hb2⟩
  have hbel2 := bl2 hb1 hb2
  have R2 := Hid.mk (HR.out.kept hbel2)
  clear hb1 hb2
  go_wp2_with fail
  refine (HZ.out w2 R2.out).mono ?_
  rintro e w3 ⟨rfl, hw3⟩
  subst hw3
  go_wp2_with fail
  refine (HRO.out w3).mono ?_
  rintro e w4 ⟨rfl, hw4⟩
  subst hw4
  go_wp2_with fail
  refine (summed_any w4 R2.out).mono ?_
  rintro e w5 ⟨rfl, hb5⟩
  have hbel5 := bl2 hbel2 hb5
  clear hb5 hbel2 R1 R2
  go_wp2_with fail
  go_ret
  exact ⟨by simp, hbel5⟩

set_option maxHeartbeats 4000000 in
theorem csum_who_neg (k : Int) (b : ByteArray) (w : World) (hb : b.size ≤ maxLen) (hR : RulesAt w) (hc : checkE b.data.toList = 0) (hk : k < 0) :
    Calls Tryd.prog 4 #[.int .i64 k, .string b] w fun e w' => e = .returned (.bool true) ∧ Below w.heap.size w w' := by
  have HR := Hid.mk hR
  have HS := Hid.mk (fun W => sum_who k b W hb hc (.inl hk))
  have HH := Hid.mk (fun W => holds_who k b W hb hc (.inl hk))
  have hro := fun W => checkRow_any b W hb
  rw [hc] at hro
  have HRO := Hid.mk hro
  have HZ := Hid.mk (fun W => size_who k W (.inl hk))
  clear hR hc hb hro
  go_enter Tryd.func4, Tryd.ntmps4
  go_wp2_with fail
  refine (HS.out w).mono ?_
  rintro e w1 ⟨rfl, hb1⟩
  have R1 := Hid.mk (HR.out.kept hb1)
  go_wp2_with fail
  refine (HH.out w1).mono ?_
  rintro e w2 ⟨rfl, hb2⟩
  have hbel2 := bl2 hb1 hb2
  have R2 := Hid.mk (HR.out.kept hbel2)
  clear hb1 hb2
  go_wp2_with fail
  refine (HZ.out w2).mono ?_
  rintro e w3 ⟨rfl, hw3⟩
  subst hw3
  go_wp2_with fail
  refine (HRO.out w3).mono ?_
  rintro e w4 ⟨rfl, hw4⟩
  subst hw4
  go_wp2_with fail
  refine (summed_any w4 R2.out).mono ?_
  rintro e w5 ⟨rfl, hb5⟩
  have hbel5 := bl2 hbel2 hb5
  clear hb5 hbel2 R1 R2
  go_wp2_with fail
  go_ret
  exact ⟨rfl, hbel5⟩

set_option maxHeartbeats 4000000 in
theorem csum_who_big (k : Int) (b : ByteArray) (w : World) (hb : b.size ≤ maxLen) (hR : RulesAt w) (hc : checkE b.data.toList = 0) (hk : 4 < k) (hk0 : 0 ≤ k) :
    Calls Tryd.prog 4 #[.int .i64 k, .string b] w fun e w' => e = .returned (.bool true) ∧ Below w.heap.size w w' := by
  have HR := Hid.mk hR
  have HS := Hid.mk (fun W => sum_who k b W hb hc (.inr hk))
  have HH := Hid.mk (fun W => holds_who k b W hb hc (.inr hk))
  have hro := fun W => checkRow_any b W hb
  rw [hc] at hro
  have HRO := Hid.mk hro
  have HZ := Hid.mk (fun W => size_who k W (.inr hk))
  clear hR hc hb hro
  go_enter Tryd.func4, Tryd.ntmps4
  go_wp2_with fail
  refine (HS.out w).mono ?_
  rintro e w1 ⟨rfl, hb1⟩
  have R1 := Hid.mk (HR.out.kept hb1)
  go_wp2_with fail
  refine (HH.out w1).mono ?_
  rintro e w2 ⟨rfl, hb2⟩
  have hbel2 := bl2 hb1 hb2
  have R2 := Hid.mk (HR.out.kept hbel2)
  clear hb1 hb2
  go_wp2_with fail
  refine (HZ.out w2).mono ?_
  rintro e w3 ⟨rfl, hw3⟩
  subst hw3
  go_wp2_with fail
  refine (HRO.out w3).mono ?_
  rintro e w4 ⟨rfl, hw4⟩
  subst hw4
  go_wp2_with fail
  refine (summed_any w4 R2.out).mono ?_
  rintro e w5 ⟨rfl, hb5⟩
  have hbel5 := bl2 hbel2 hb5
  clear hb5 hbel2 R1 R2
  go_wp2_with fail
  go_ret
  exact ⟨rfl, hbel5⟩

set_option maxHeartbeats 4000000 in
theorem csum_short (k : Nat) (b : ByteArray) (w : World) (hR : RulesAt w) (hD : w.cell? ⟨6, 1, none⟩ = some (.int .u8 1)) (hc : checkE b.data.toList = 0) (hk : k ≤ 4) (hs : b.size < kS k) :
    Calls Tryd.prog 4 #[.int .i64 k, .string b] w fun e w' => e = .returned (.bool true) ∧ Below w.heap.size w w' := by
  obtain ⟨h1000, hrow⟩ := small_of_check hc
  have HR := Hid.mk hR
  have HD := Hid.mk hD
  have hss := fun W hW => sum_ok k b W hW hc hk
  have hro := fun W => checkRow_any b W (show b.size ≤ maxLen by unfold maxLen; omega)
  rw [hc] at hro
  have HRO := Hid.mk hro
  have HH := Hid.mk (fun W hW => holds_short k b W hW hc hk hs)
  have HZ := Hid.mk (fun W hW => size_ok k W hW hk)
  have hso := fun W hW => Ww.sumOf_any k b W hW hk h1000 hrow
  rw [show sumL k b.data.toList = bitsHead (sumV k b.data.toList) (kS k) (kS k) from rfl] at hss
  generalize ByteArray.mk (bitsHead (sumV k b.data.toList) (kS k) (kS k)).toArray = T at *
  have HS := Hid.mk hss
  have HSO := Hid.mk hso
  have hk' : (k : Int) < 5 := by omega
  have hk4 : (k : Int) ≤ 4 := by omega
  obtain ⟨s8, s21, _⟩ := kinds_ok k hk
  have hn8 : ((kS k : Int) == 8) = ((kS k : Int) == 8) := rfl
  have hlt : decide ((b.size : Int) < (kS k : Int)) = true := by simpa using hs
  have htb := tabS' k hk
  clear hR hD hc hrow hss hro hso hn8
  go_enter Tryd.func4, Tryd.ntmps4
  go_wp2_with fail
  refine (HS.out w HR.out).mono ?_
  rintro e w1 ⟨rfl, hb1⟩
  have R1 := Hid.mk (HR.out.kept hb1)
  go_wp2_with fail
  refine (HH.out w1 R1.out).mono ?_
  rintro e w2 ⟨rfl, hb2⟩
  have hbel2 := bl2 hb1 hb2
  have R2 := Hid.mk (HR.out.kept hbel2)
  clear hb1 hb2
  go_wp2_with fail
  refine (HZ.out w2 R2.out).mono ?_
  rintro e w3 ⟨rfl, hw3⟩
  subst hw3
  go_wp2_with fail
  refine (HRO.out w3).mono ?_
  rintro e w4 ⟨rfl, hw4⟩
  subst hw4
  go_wp2_with fail
  refine (summed_any w4 R2.out).mono ?_
  rintro e w5 ⟨rfl, hb5⟩
  have hbel5 := bl2 hbel2 hb5
  clear hb5 hbel2 R1 R2
  go_wp2_with fail
  have hbA : Below w5.heap.size w5 (w5.alloc (.cells #[.int .i64 15, .int .i64 17, .int .i64 21, .int .i64 8, .int .i64 16] 3)) := (Below.refl _ _).alloc (Nat.le_refl _) _
  refine (HSO.out _ (cell_kept hbA (cell_kept hbel5 HD.out))).mono ?_
  rintro e w6 ⟨rfl, hb6⟩
  have hbel6 := bl2 (bl2 hbel5 hbA) hb6
  clear hbA hb6 hbel5
  go_wp2_with fail
  go_ret
  exact ⟨rfl, hbel6⟩

end Bw
end Go.Proofs.YtdhmjbnpdmneiabDoor
