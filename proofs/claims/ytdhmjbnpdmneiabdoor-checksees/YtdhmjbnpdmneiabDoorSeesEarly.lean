/- The law CheckSees returns true where it asks nothing more: a row or a kind or a pattern that is none, a pattern without a bit that is turned, too long, or out of its place. -/
import Derived.Test.YtdhmjbnpdmneiabDoorBitsCheck
import Derived.Test.YtdhmjbnpdmneiabDoorSummed
import Derived.Test.YtdhmjbnpdmneiabDoorCheckLand
import Derived.Test.YtdhmjbnpdmneiabDoorConMath
import Derived.Test.YtdhmjbnpdmneiabDoorShelfCon
namespace Go.Proofs.YtdhmjbnpdmneiabDoor
open Go.ChangeShapes Go.WideShapes Go.ChangeAt Go.RowKit
namespace Bw
open Bm Cm

set_option maxHeartbeats 4000000 in
theorem sees_bad_neg (k : Int) (b : ByteArray) (at_ : Int) (p : ByteArray) (w : World) (hR : RulesAt w) (hb : b.size ≤ maxLen) (hc : checkE b.data.toList ≠ 0) (hk : k < 0) :
    Calls Tryd.prog 5 #[.int .i64 k, .string b, .int .i64 at_, .string p] w fun e w' => e = .returned (.bool true) ∧ Below w.heap.size w w' := by
  have HR := Hid.mk hR
  have HS := Hid.mk (fun W => sum_bad k b W hb hc)
  have hne : (checkE b.data.toList != 0) = true := by simpa using hc
  have HZ := Hid.mk (fun W => size_who k W (.inl hk))
  clear hR hc hb
  generalize checkE b.data.toList = ce at *
  go_enter Tryd.func5, Tryd.ntmps5
  go_wp2_with fail
  refine (HS.out w).mono ?_
  rintro e w1 ⟨rfl, hb1⟩
  have R1 := Hid.mk (HR.out.kept hb1)
  go_wp2_with fail
  refine (HZ.out w1).mono ?_
  rintro e w2 ⟨rfl, hw2⟩
  subst hw2
  go_wp2_with fail
  refine (summed_any w2 R1.out).mono ?_
  rintro e w3 ⟨rfl, hb3⟩
  have hbel3 := bl2 hb1 hb3
  have R3 := Hid.mk (HR.out.kept hbel3)
  clear hb1 hb3 R1
  go_wp2_with fail
  refine (summed_any w3 (HR.out.kept hbel3)).mono ?_
  rintro e w9 ⟨rfl, hb9⟩
  have hbel9 := bl2 hbel3 hb9
  clear hb9 R3 hbel3
  go_wp2_with fail
  go_ret
  exact ⟨rfl, hbel9⟩

set_option maxHeartbeats 4000000 in
theorem sees_bad_big (k : Int) (b : ByteArray) (at_ : Int) (p : ByteArray) (w : World) (hR : RulesAt w) (hb : b.size ≤ maxLen) (hc : checkE b.data.toList ≠ 0) (hk : 4 < k) :
    Calls Tryd.prog 5 #[.int .i64 k, .string b, .int .i64 at_, .string p] w fun e w' => e = .returned (.bool true) ∧ Below w.heap.size w w' := by
  have HR := Hid.mk hR
  have HS := Hid.mk (fun W => sum_bad k b W hb hc)
  have hne : (checkE b.data.toList != 0) = true := by simpa using hc
  have HZ := Hid.mk (fun W => size_who k W (.inr hk))
  clear hR hc hb
  generalize checkE b.data.toList = ce at *
  go_enter Tryd.func5, Tryd.ntmps5
  go_wp2_with fail
  refine (HS.out w).mono ?_
  rintro e w1 ⟨rfl, hb1⟩
  have R1 := Hid.mk (HR.out.kept hb1)
  go_wp2_with fail
  refine (HZ.out w1).mono ?_
  rintro e w2 ⟨rfl, hw2⟩
  subst hw2
  go_wp2_with fail
  refine (summed_any w2 R1.out).mono ?_
  rintro e w3 ⟨rfl, hb3⟩
  have hbel3 := bl2 hb1 hb3
  have R3 := Hid.mk (HR.out.kept hbel3)
  clear hb1 hb3 R1
  go_wp2_with fail
  refine (summed_any w3 (HR.out.kept hbel3)).mono ?_
  rintro e w9 ⟨rfl, hb9⟩
  have hbel9 := bl2 hbel3 hb9
  clear hb9 R3 hbel3
  go_wp2_with fail
  go_ret
  exact ⟨rfl, hbel9⟩

set_option maxHeartbeats 4000000 in
theorem sees_bad_in (k : Nat) (b : ByteArray) (at_ : Int) (p : ByteArray) (w : World) (hR : RulesAt w) (hb : b.size ≤ maxLen) (hc : checkE b.data.toList ≠ 0) (hk : k ≤ 4) :
    Calls Tryd.prog 5 #[.int .i64 k, .string b, .int .i64 at_, .string p] w fun e w' => e = .returned (.bool true) ∧ Below w.heap.size w w' := by
  have HR := Hid.mk hR
  have HS := Hid.mk (fun W => sum_bad k b W hb hc)
  have hne : (checkE b.data.toList != 0) = true := by simpa using hc
  have HZ := Hid.mk (fun W hW => size_ok k W hW hk)
  clear hR hc hb
  generalize checkE b.data.toList = ce at *
  go_enter Tryd.func5, Tryd.ntmps5
  go_wp2_with fail
  refine (HS.out w).mono ?_
  rintro e w1 ⟨rfl, hb1⟩
  have R1 := Hid.mk (HR.out.kept hb1)
  go_wp2_with fail
  refine (HZ.out w1 R1.out).mono ?_
  rintro e w2 ⟨rfl, hw2⟩
  subst hw2
  go_wp2_with fail
  refine (summed_any w2 R1.out).mono ?_
  rintro e w3 ⟨rfl, hb3⟩
  have hbel3 := bl2 hb1 hb3
  have R3 := Hid.mk (HR.out.kept hbel3)
  clear hb1 hb3 R1
  go_wp2_with fail
  refine (summed_any w3 (HR.out.kept hbel3)).mono ?_
  rintro e w9 ⟨rfl, hb9⟩
  have hbel9 := bl2 hbel3 hb9
  clear hb9 R3 hbel3
  go_wp2_with fail
  go_ret
  exact ⟨rfl, hbel9⟩

set_option maxHeartbeats 4000000 in
theorem sees_who_neg (k : Int) (b : ByteArray) (at_ : Int) (p : ByteArray) (w : World) (hR : RulesAt w) (hb : b.size ≤ maxLen) (hc : checkE b.data.toList = 0) (hk : k < 0) :
    Calls Tryd.prog 5 #[.int .i64 k, .string b, .int .i64 at_, .string p] w fun e w' => e = .returned (.bool true) ∧ Below w.heap.size w w' := by
  have HR := Hid.mk hR
  have HS := Hid.mk (fun W => sum_who k b W hb hc (.inl hk))
  have HZ := Hid.mk (fun W => size_who k W (.inl hk))
  clear hR hc hb
  go_enter Tryd.func5, Tryd.ntmps5
  go_wp2_with fail
  refine (HS.out w).mono ?_
  rintro e w1 ⟨rfl, hb1⟩
  have R1 := Hid.mk (HR.out.kept hb1)
  go_wp2_with fail
  refine (HZ.out w1).mono ?_
  rintro e w2 ⟨rfl, hw2⟩
  subst hw2
  go_wp2_with fail
  refine (summed_any w2 R1.out).mono ?_
  rintro e w3 ⟨rfl, hb3⟩
  have hbel3 := bl2 hb1 hb3
  have R3 := Hid.mk (HR.out.kept hbel3)
  clear hb1 hb3 R1
  go_wp2_with fail
  refine (summed_any w3 (HR.out.kept hbel3)).mono ?_
  rintro e w9 ⟨rfl, hb9⟩
  have hbel9 := bl2 hbel3 hb9
  clear hb9 R3 hbel3
  go_wp2_with fail
  go_ret
  exact ⟨rfl, hbel9⟩

set_option maxHeartbeats 4000000 in
theorem sees_who_big (k : Int) (b : ByteArray) (at_ : Int) (p : ByteArray) (w : World) (hR : RulesAt w) (hb : b.size ≤ maxLen) (hc : checkE b.data.toList = 0) (hk : 4 < k) :
    Calls Tryd.prog 5 #[.int .i64 k, .string b, .int .i64 at_, .string p] w fun e w' => e = .returned (.bool true) ∧ Below w.heap.size w w' := by
  have HR := Hid.mk hR
  have HS := Hid.mk (fun W => sum_who k b W hb hc (.inr hk))
  have HZ := Hid.mk (fun W => size_who k W (.inr hk))
  clear hR hc hb
  go_enter Tryd.func5, Tryd.ntmps5
  go_wp2_with fail
  refine (HS.out w).mono ?_
  rintro e w1 ⟨rfl, hb1⟩
  have R1 := Hid.mk (HR.out.kept hb1)
  go_wp2_with fail
  refine (HZ.out w1).mono ?_
  rintro e w2 ⟨rfl, hw2⟩
  subst hw2
  go_wp2_with fail
  refine (summed_any w2 R1.out).mono ?_
  rintro e w3 ⟨rfl, hb3⟩
  have hbel3 := bl2 hb1 hb3
  have R3 := Hid.mk (HR.out.kept hbel3)
  clear hb1 hb3 R1
  go_wp2_with fail
  refine (summed_any w3 (HR.out.kept hbel3)).mono ?_
  rintro e w9 ⟨rfl, hb9⟩
  have hbel9 := bl2 hbel3 hb9
  clear hb9 R3 hbel3
  go_wp2_with fail
  go_ret
  exact ⟨rfl, hbel9⟩

set_option maxHeartbeats 4000000 in
theorem sees_pat (k : Nat) (b : ByteArray) (at_ : Int) (p : ByteArray) (w : World) (hR : RulesAt w) (hc : checkE b.data.toList = 0) (hk : k ≤ 4) (hp : p.size ≤ maxLen) (hcp : checkE p.data.toList ≠ 0) :
    Calls Tryd.prog 5 #[.int .i64 k, .string b, .int .i64 at_, .string p] w fun e w' => e = .returned (.bool true) ∧ Below w.heap.size w w' := by
  have HR := Hid.mk hR
  have HS := Hid.mk (fun W hW => sum_ok k b W hW hc hk)
  have HZ := Hid.mk (fun W hW => size_ok k W hW hk)
  obtain ⟨s8, s21, _⟩ := kinds_ok k hk
  obtain ⟨h1000, _⟩ := small_of_check hc
  have HP := Hid.mk (fun W => check_any p W hp)
  have hne : (checkE p.data.toList != 0) = true := by simpa using hcp
  clear hR hc hcp hp
  generalize checkE p.data.toList = ce at *
  generalize ByteArray.mk (sumL k b.data.toList).toArray = S at *
  go_enter Tryd.func5, Tryd.ntmps5
  go_wp2_with fail
  refine (HS.out w HR.out).mono ?_
  rintro e w1 ⟨rfl, hb1⟩
  have R1 := Hid.mk (HR.out.kept hb1)
  go_wp2_with fail
  refine (HZ.out w1 R1.out).mono ?_
  rintro e w2 ⟨rfl, hw2⟩
  subst hw2
  go_wp2_with fail
  refine (summed_any w2 R1.out).mono ?_
  rintro e w3 ⟨rfl, hb3⟩
  have hbel3 := bl2 hb1 hb3
  have R3 := Hid.mk (HR.out.kept hbel3)
  clear hb1 hb3 R1
  go_wp2_with fail
  refine (HP.out w3).mono ?_
  rintro e w4 ⟨rfl, hb4⟩
  have hbel4 := bl2 hbel3 hb4
  clear hb4
  go_wp2_with fail
  refine (summed_any w4 (HR.out.kept hbel4)).mono ?_
  rintro e w9 ⟨rfl, hb9⟩
  have hbel9 := bl2 hbel4 hb9
  clear hb9 R3 hbel4
  go_wp2_with fail
  go_ret
  exact ⟨rfl, hbel9⟩

set_option maxHeartbeats 4000000 in
theorem sees_none (k : Nat) (b : ByteArray) (at_ : Int) (p : ByteArray) (w : World) (hR : RulesAt w) (m : Int) (hm : w.cell? ⟨1, 0, none⟩ = some (.int .i64 m)) (hc : checkE b.data.toList = 0) (hk : k ≤ 4) (hcp : checkE p.data.toList = 0) (h49 : Lib.contains p.data.toList [49] = false) :
    Calls Tryd.prog 5 #[.int .i64 k, .string b, .int .i64 at_, .string p] w fun e w' => e = .returned (.bool true) ∧ Below w.heap.size w w' := by
  have HR := Hid.mk hR
  have HS := Hid.mk (fun W hW => sum_ok k b W hW hc hk)
  have HZ := Hid.mk (fun W hW => size_ok k W hW hk)
  obtain ⟨s8, s21, _⟩ := kinds_ok k hk
  obtain ⟨h1000, _⟩ := small_of_check hc
  obtain ⟨hp1000, _⟩ := small_of_check hcp
  have hpc := fun W => check_any p W (by unfold maxLen; omega)
  rw [hcp] at hpc
  have HP := Hid.mk hpc
  have hcon := fun W hW => Tryd.strings_Contains p ⟨#[49]⟩ m W (by omega) hW
  rw [show (ByteArray.mk #[49]).data.toList = [49] from rfl] at hcon
  rw [h49] at hcon
  have HCON := Hid.mk hcon
  have HM := Hid.mk hm
  clear hR hc hcp hpc hcon hm
  generalize ByteArray.mk (sumL k b.data.toList).toArray = S at *
  go_enter Tryd.func5, Tryd.ntmps5
  go_wp2_with fail
  refine (HS.out w HR.out).mono ?_
  rintro e w1 ⟨rfl, hb1⟩
  have R1 := Hid.mk (HR.out.kept hb1)
  go_wp2_with fail
  refine (HZ.out w1 R1.out).mono ?_
  rintro e w2 ⟨rfl, hw2⟩
  subst hw2
  go_wp2_with fail
  refine (summed_any w2 R1.out).mono ?_
  rintro e w3 ⟨rfl, hb3⟩
  have hbel3 := bl2 hb1 hb3
  have R3 := Hid.mk (HR.out.kept hbel3)
  clear hb1 hb3 R1
  go_wp2_with fail
  refine (HP.out w3).mono ?_
  rintro e w4 ⟨rfl, hb4⟩
  have hbel4 := bl2 hbel3 hb4
  clear hb4
  go_wp2_with fail
  refine (HCON.out w4 (cell_kept hbel4 HM.out)).mono ?_
  rintro e w5 ⟨rfl, hw5⟩
  subst hw5
  go_wp2_with fail
  refine (summed_any w5 (HR.out.kept hbel4)).mono ?_
  rintro e w9 ⟨rfl, hb9⟩
  have hbel9 := bl2 hbel4 hb9
  clear hb9 R3 hbel4
  go_wp2_with fail
  go_ret
  exact ⟨rfl, hbel9⟩

set_option maxHeartbeats 4000000 in
theorem sees_long (k : Nat) (b : ByteArray) (at_ : Int) (p : ByteArray) (w : World) (hR : RulesAt w) (m : Int) (hm : w.cell? ⟨1, 0, none⟩ = some (.int .i64 m)) (hc : checkE b.data.toList = 0) (hk : k ≤ 4) (hcp : checkE p.data.toList = 0) (h49 : Lib.contains p.data.toList [49] = true) (h1 : kS k < p.size) :
    Calls Tryd.prog 5 #[.int .i64 k, .string b, .int .i64 at_, .string p] w fun e w' => e = .returned (.bool true) ∧ Below w.heap.size w w' := by
  have HR := Hid.mk hR
  have HS := Hid.mk (fun W hW => sum_ok k b W hW hc hk)
  have HZ := Hid.mk (fun W hW => size_ok k W hW hk)
  obtain ⟨s8, s21, _⟩ := kinds_ok k hk
  obtain ⟨h1000, _⟩ := small_of_check hc
  obtain ⟨hp1000, _⟩ := small_of_check hcp
  have hpc := fun W => check_any p W (by unfold maxLen; omega)
  rw [hcp] at hpc
  have HP := Hid.mk hpc
  have hcon := fun W hW => Tryd.strings_Contains p ⟨#[49]⟩ m W (by omega) hW
  rw [show (ByteArray.mk #[49]).data.toList = [49] from rfl] at hcon
  have hlt : decide ((p.size : Int) > (kS k : Int)) = true := by simp; omega
  have hlt2 : decide ((kS k : Int) < (p.size : Int)) = true := by simp; omega
  rw [h49] at hcon
  have HCON := Hid.mk hcon
  have HM := Hid.mk hm
  clear hR hc hcp hpc hcon hm
  generalize ByteArray.mk (sumL k b.data.toList).toArray = S at *
  go_enter Tryd.func5, Tryd.ntmps5
  go_wp2_with fail
  refine (HS.out w HR.out).mono ?_
  rintro e w1 ⟨rfl, hb1⟩
  have R1 := Hid.mk (HR.out.kept hb1)
  go_wp2_with fail
  refine (HZ.out w1 R1.out).mono ?_
  rintro e w2 ⟨rfl, hw2⟩
  subst hw2
  go_wp2_with fail
  refine (summed_any w2 R1.out).mono ?_
  rintro e w3 ⟨rfl, hb3⟩
  have hbel3 := bl2 hb1 hb3
  have R3 := Hid.mk (HR.out.kept hbel3)
  clear hb1 hb3 R1
  go_wp2_with fail
  refine (HP.out w3).mono ?_
  rintro e w4 ⟨rfl, hb4⟩
  have hbel4 := bl2 hbel3 hb4
  clear hb4
  go_wp2_with fail
  refine (HCON.out w4 (cell_kept hbel4 HM.out)).mono ?_
  rintro e w5 ⟨rfl, hw5⟩
  subst hw5
  go_wp2_with fail
  refine (summed_any w5 (HR.out.kept hbel4)).mono ?_
  rintro e w9 ⟨rfl, hb9⟩
  have hbel9 := bl2 hbel4 hb9
  clear hb9 R3 hbel4
  go_wp2_with fail
  go_ret
  exact ⟨rfl, hbel9⟩

set_option maxHeartbeats 4000000 in
theorem sees_many (k : Nat) (b : ByteArray) (at_ : Int) (p : ByteArray) (w : World) (hR : RulesAt w) (m : Int) (hm : w.cell? ⟨1, 0, none⟩ = some (.int .i64 m)) (hc : checkE b.data.toList = 0) (hk : k ≤ 4) (hcp : checkE p.data.toList = 0) (h49 : Lib.contains p.data.toList [49] = true) (h1 : p.size ≤ kS k) (h2 : 1000 < b.size + kS k) :
    Calls Tryd.prog 5 #[.int .i64 k, .string b, .int .i64 at_, .string p] w fun e w' => e = .returned (.bool true) ∧ Below w.heap.size w w' := by
  have HR := Hid.mk hR
  have HS := Hid.mk (fun W hW => sum_ok k b W hW hc hk)
  have HZ := Hid.mk (fun W hW => size_ok k W hW hk)
  obtain ⟨s8, s21, _⟩ := kinds_ok k hk
  obtain ⟨h1000, _⟩ := small_of_check hc
  obtain ⟨hp1000, _⟩ := small_of_check hcp
  have hpc := fun W => check_any p W (by unfold maxLen; omega)
  rw [hcp] at hpc
  have HP := Hid.mk hpc
  have hcon := fun W hW => Tryd.strings_Contains p ⟨#[49]⟩ m W (by omega) hW
  rw [show (ByteArray.mk #[49]).data.toList = [49] from rfl] at hcon
  have hle : decide ((kS k : Int) < (p.size : Int)) = false := by simp; omega
  have hlt2 : decide ((1000 : Int) < (b.size : Int) + (kS k : Int)) = true := by simp; omega
  rw [h49] at hcon
  have HCON := Hid.mk hcon
  have HM := Hid.mk hm
  clear hR hc hcp hpc hcon hm
  generalize ByteArray.mk (sumL k b.data.toList).toArray = S at *
  go_enter Tryd.func5, Tryd.ntmps5
  go_wp2_with fail
  refine (HS.out w HR.out).mono ?_
  rintro e w1 ⟨rfl, hb1⟩
  have R1 := Hid.mk (HR.out.kept hb1)
  go_wp2_with fail
  refine (HZ.out w1 R1.out).mono ?_
  rintro e w2 ⟨rfl, hw2⟩
  subst hw2
  go_wp2_with fail
  refine (summed_any w2 R1.out).mono ?_
  rintro e w3 ⟨rfl, hb3⟩
  have hbel3 := bl2 hb1 hb3
  have R3 := Hid.mk (HR.out.kept hbel3)
  clear hb1 hb3 R1
  go_wp2_with fail
  refine (HP.out w3).mono ?_
  rintro e w4 ⟨rfl, hb4⟩
  have hbel4 := bl2 hbel3 hb4
  clear hb4
  go_wp2_with fail
  refine (HCON.out w4 (cell_kept hbel4 HM.out)).mono ?_
  rintro e w5 ⟨rfl, hw5⟩
  subst hw5
  go_wp2_with fail
  refine (summed_any w5 (HR.out.kept hbel4)).mono ?_
  rintro e w9 ⟨rfl, hb9⟩
  have hbel9 := bl2 hbel4 hb9
  clear hb9 R3 hbel4
  go_wp2_with fail
  go_ret
  exact ⟨rfl, hbel9⟩

set_option maxHeartbeats 4000000 in
theorem sees_left (k : Nat) (b : ByteArray) (at_ : Int) (p : ByteArray) (w : World) (hR : RulesAt w) (m : Int) (hm : w.cell? ⟨1, 0, none⟩ = some (.int .i64 m)) (hc : checkE b.data.toList = 0) (hk : k ≤ 4) (hcp : checkE p.data.toList = 0) (h49 : Lib.contains p.data.toList [49] = true) (h1 : p.size ≤ kS k) (h2 : b.size + kS k ≤ 1000) (h3 : at_ < 0) :
    Calls Tryd.prog 5 #[.int .i64 k, .string b, .int .i64 at_, .string p] w fun e w' => e = .returned (.bool true) ∧ Below w.heap.size w w' := by
  have HR := Hid.mk hR
  have HS := Hid.mk (fun W hW => sum_ok k b W hW hc hk)
  have HZ := Hid.mk (fun W hW => size_ok k W hW hk)
  obtain ⟨s8, s21, _⟩ := kinds_ok k hk
  obtain ⟨h1000, _⟩ := small_of_check hc
  obtain ⟨hp1000, _⟩ := small_of_check hcp
  have hpc := fun W => check_any p W (by unfold maxLen; omega)
  rw [hcp] at hpc
  have HP := Hid.mk hpc
  have hcon := fun W hW => Tryd.strings_Contains p ⟨#[49]⟩ m W (by omega) hW
  rw [show (ByteArray.mk #[49]).data.toList = [49] from rfl] at hcon
  have hle : decide ((kS k : Int) < (p.size : Int)) = false := by simp; omega
  have hlt2 : decide ((1000 : Int) < (b.size : Int) + (kS k : Int)) = false := by simp; omega
  have hlt3 : decide (at_ < 0) = true := by simpa using h3
  rw [h49] at hcon
  have HCON := Hid.mk hcon
  have HM := Hid.mk hm
  clear hR hc hcp hpc hcon hm
  generalize ByteArray.mk (sumL k b.data.toList).toArray = S at *
  go_enter Tryd.func5, Tryd.ntmps5
  go_wp2_with fail
  refine (HS.out w HR.out).mono ?_
  rintro e w1 ⟨rfl, hb1⟩
  have R1 := Hid.mk (HR.out.kept hb1)
  go_wp2_with fail
  refine (HZ.out w1 R1.out).mono ?_
  rintro e w2 ⟨rfl, hw2⟩
  subst hw2
  go_wp2_with fail
  refine (summed_any w2 R1.out).mono ?_
  rintro e w3 ⟨rfl, hb3⟩
  have hbel3 := bl2 hb1 hb3
  have R3 := Hid.mk (HR.out.kept hbel3)
  clear hb1 hb3 R1
  go_wp2_with fail
  refine (HP.out w3).mono ?_
  rintro e w4 ⟨rfl, hb4⟩
  have hbel4 := bl2 hbel3 hb4
  clear hb4
  go_wp2_with fail
  refine (HCON.out w4 (cell_kept hbel4 HM.out)).mono ?_
  rintro e w5 ⟨rfl, hw5⟩
  subst hw5
  go_wp2_with fail
  refine (summed_any w5 (HR.out.kept hbel4)).mono ?_
  rintro e w9 ⟨rfl, hb9⟩
  have hbel9 := bl2 hbel4 hb9
  clear hb9 R3 hbel4
  go_wp2_with fail
  go_ret
  exact ⟨rfl, hbel9⟩

set_option maxHeartbeats 4000000 in
theorem sees_right (k : Nat) (b : ByteArray) (at_ : Int) (p : ByteArray) (w : World) (hR : RulesAt w) (m : Int) (hm : w.cell? ⟨1, 0, none⟩ = some (.int .i64 m)) (hc : checkE b.data.toList = 0) (hk : k ≤ 4) (hcp : checkE p.data.toList = 0) (h49 : Lib.contains p.data.toList [49] = true) (h1 : p.size ≤ kS k) (h2 : b.size + kS k ≤ 1000) (h3 : 0 ≤ at_) (h4 : (b.size : Int) + kS k - p.size < at_) :
    Calls Tryd.prog 5 #[.int .i64 k, .string b, .int .i64 at_, .string p] w fun e w' => e = .returned (.bool true) ∧ Below w.heap.size w w' := by
  have HR := Hid.mk hR
  have HS := Hid.mk (fun W hW => sum_ok k b W hW hc hk)
  have HZ := Hid.mk (fun W hW => size_ok k W hW hk)
  obtain ⟨s8, s21, _⟩ := kinds_ok k hk
  obtain ⟨h1000, _⟩ := small_of_check hc
  obtain ⟨hp1000, _⟩ := small_of_check hcp
  have hpc := fun W => check_any p W (by unfold maxLen; omega)
  rw [hcp] at hpc
  have HP := Hid.mk hpc
  have hcon := fun W hW => Tryd.strings_Contains p ⟨#[49]⟩ m W (by omega) hW
  rw [show (ByteArray.mk #[49]).data.toList = [49] from rfl] at hcon
  have hle : decide ((kS k : Int) < (p.size : Int)) = false := by simp; omega
  have hlt2 : decide ((1000 : Int) < (b.size : Int) + (kS k : Int)) = false := by simp; omega
  have hlt3 : decide (at_ < 0) = false := by simpa using h3
  have hlt4 : decide ((b.size : Int) + (kS k : Int) - (p.size : Int) < at_) = true := by simpa using h4
  rw [h49] at hcon
  have HCON := Hid.mk hcon
  have HM := Hid.mk hm
  clear hR hc hcp hpc hcon hm
  generalize ByteArray.mk (sumL k b.data.toList).toArray = S at *
  go_enter Tryd.func5, Tryd.ntmps5
  go_wp2_with fail
  refine (HS.out w HR.out).mono ?_
  rintro e w1 ⟨rfl, hb1⟩
  have R1 := Hid.mk (HR.out.kept hb1)
  go_wp2_with fail
  refine (HZ.out w1 R1.out).mono ?_
  rintro e w2 ⟨rfl, hw2⟩
  subst hw2
  go_wp2_with fail
  refine (summed_any w2 R1.out).mono ?_
  rintro e w3 ⟨rfl, hb3⟩
  have hbel3 := bl2 hb1 hb3
  have R3 := Hid.mk (HR.out.kept hbel3)
  clear hb1 hb3 R1
  go_wp2_with fail
  refine (HP.out w3).mono ?_
  rintro e w4 ⟨rfl, hb4⟩
  have hbel4 := bl2 hbel3 hb4
  clear hb4
  go_wp2_with fail
  refine (HCON.out w4 (cell_kept hbel4 HM.out)).mono ?_
  rintro e w5 ⟨rfl, hw5⟩
  subst hw5
  go_wp2_with fail
  refine (summed_any w5 (HR.out.kept hbel4)).mono ?_
  rintro e w9 ⟨rfl, hb9⟩
  have hbel9 := bl2 hbel4 hb9
  clear hb9 R3 hbel4
  go_wp2_with fail
  go_ret
  exact ⟨rfl, hbel9⟩

end Bw
end Go.Proofs.YtdhmjbnpdmneiabDoor
