/- The law BitsNumber returns true for all inputs, where the table of math/bits lies as its initialiser lays it. -/
import Derived.Test.YtcoemhndpmdccaaDoorBigInt64
import Derived.Test.YtcoemhndpmdccaaDoorRef2
namespace Go.Proofs.YtcoemhndpmdccaaDoor
open Go.ChangeShapes Go.WideShapes Go.ChangeAt Go.RowKit
namespace Bw
open Bm

def rowE (n size : Int) : Int := if size < 0 ∨ 62 < size then 2 else if n < 0 ∨ 2 ^ size.toNat ≤ n then 3 else 0
def rowS (n size : Int) : ByteArray := if rowE n size = 0 then ⟨(bitsHead n.toNat size.toNat size.toNat).toArray⟩ else ⟨#[]⟩

theorem row_spec (n size : Int) (w : World) :
    Calls Tryd.prog 8 #[.int .i64 n, .int .i64 size] w fun e w' => e = .returned (.tuple #[.string (rowS n size), .int .i64 (rowE n size)]) ∧ Below w.heap.size w w' := by
  unfold rowS rowE
  by_cases h1 : size < 0 ∨ 62 < size
  · rw [if_pos h1, if_neg (by omega)]
    exact (row_many n size w h1).mono fun e w' ⟨he, hw⟩ => ⟨he, hw ▸ Below.refl _ _⟩
  · rw [if_neg h1]
    by_cases h2 : n < 0 ∨ 2 ^ size.toNat ≤ n
    · rw [if_pos h2, if_neg (by omega)]
      exact (row_range n size w (by omega) (by omega) h2).mono fun e w' ⟨he, hw⟩ => ⟨he, hw ▸ Below.refl _ _⟩
    · rw [if_neg h2, if_pos rfl]
      obtain ⟨N, rfl⟩ := Int.eq_ofNat_of_zero_le (show 0 ≤ n by omega)
      obtain ⟨S, rfl⟩ := Int.eq_ofNat_of_zero_le (show 0 ≤ size by omega)
      have hlt : N < 2 ^ S := by
        have h3 : (N : Int) < 2 ^ S := by
          have e : ((S : Int)).toNat = S := by omega
          rw [e] at h2; omega
        exact_mod_cast h3
      exact row_ok N S w (by omega) hlt

/-- what is told of a number and a size: which of five ways -/
theorem row_ways (n size : Int) (wn : n < 9223372036854775808) :
    ((size < 0 ∨ 62 < size) ∧ rowE n size = 2 ∧ rowS n size = ⟨#[]⟩) ∨
    (0 ≤ size ∧ size ≤ 62 ∧ n < 0 ∧ rowE n size = 3 ∧ rowS n size = ⟨#[]⟩) ∨
    (∃ S : Nat, size = S ∧ S ≤ 62 ∧ n = 0 ∧ rowE n size = 0 ∧ rowS n size = ⟨(bitsHead 0 S S).toArray⟩) ∨
    (∃ S N : Nat, size = S ∧ S ≤ 62 ∧ n = N ∧ 0 < N ∧ N < 2 ^ 63 ∧ N < 2 ^ S ∧ rowE n size = 0 ∧ rowS n size = ⟨(bitsHead N S S).toArray⟩) ∨
    (∃ S N : Nat, size = S ∧ S ≤ 62 ∧ n = N ∧ 0 < N ∧ N < 2 ^ 63 ∧ ¬ N < 2 ^ S ∧ rowE n size = 3 ∧ rowS n size = ⟨#[]⟩) := by
  by_cases h1 : size < 0 ∨ 62 < size
  · have e : rowE n size = 2 := by unfold rowE; rw [if_pos h1]
    exact Or.inl ⟨h1, e, by unfold rowS; rw [if_neg (by omega)]⟩
  · refine Or.inr ?_
    obtain ⟨S, rfl⟩ := Int.eq_ofNat_of_zero_le (show 0 ≤ size by omega)
    have eS : ((S : Int)).toNat = S := by omega
    by_cases h2 : n < 0
    · have e : rowE n S = 3 := by unfold rowE; rw [if_neg h1, if_pos (Or.inl h2)]
      exact Or.inl ⟨by omega, by omega, h2, e, by unfold rowS; rw [if_neg (by omega)]⟩
    · refine Or.inr ?_
      obtain ⟨N, rfl⟩ := Int.eq_ofNat_of_zero_le (show 0 ≤ n by omega)
      have eN : ((N : Int)).toNat = N := by omega
      have hcast : (2 : Int) ^ S ≤ (N : Int) ↔ 2 ^ S ≤ N := by
        constructor
        · intro h; exact_mod_cast h
        · intro h; exact_mod_cast h
      by_cases h3 : N < 2 ^ S
      · have e : rowE N S = 0 := by
          unfold rowE
          rw [if_neg h1, if_neg (by rw [eS, hcast]; omega)]
        have es : rowS N S = ⟨(bitsHead N S S).toArray⟩ := by unfold rowS; rw [if_pos e, eN, eS]
        by_cases h0 : N = 0
        · subst h0
          exact Or.inl ⟨S, rfl, by omega, rfl, e, es⟩
        · exact Or.inr (Or.inl ⟨S, N, rfl, by omega, rfl, by omega, by omega, h3, e, es⟩)
      · have e : rowE N S = 3 := by
          unfold rowE
          rw [if_neg h1, if_pos (Or.inr (by rw [eS, hcast]; omega))]
        have h0 : 0 < N := by
          rcases Nat.eq_zero_or_pos N with h | h
          · subst h; exact absurd (Nat.two_pow_pos S) h3
          · exact h
        exact Or.inr (Or.inr ⟨S, N, rfl, by omega, rfl, h0, by omega, h3, e, by unfold rowS; rw [if_neg (by omega)]⟩)

set_option maxHeartbeats 8000000 in
theorem numberLaw (b : ByteArray) (n size : Int) (w : World) (hb : b.size ≤ maxLen) (wn : (Lit.int .i64 n).wf = true) (h : w.cell? ⟨5, 1, none⟩ = some (.int .u8 1)) :
    Calls Tryd.prog 3 #[.string b, .int .i64 n, .int .i64 size] w fun e w' => e = .returned (.bool true) ∧ Below w.heap.size w w' := by
  have hn63 : n < 9223372036854775808 := by
    have : -9223372036854775808 ≤ n ∧ n ≤ 9223372036854775807 := by simpa [Lit.wf, IntKind.min, IntKind.max, IntKind.signed, IntKind.bits] using wn
    omega
  have hways := row_ways n size hn63
  have HW := Hid.mk hways
  have HB := Hid.mk hb
  have H := Hid.mk h
  have hbm : b.size ≤ 9223372036854775807 := by unfold maxLen at hb; exact hb
  clear hb h hways wn hn63
  go_enter Tryd.func3, Tryd.ntmps3
  go_wp2_with fail
  refine (number_any b w HB.out).mono ?_
  rintro e w1 ⟨rfl, hb1⟩
  go_wp2_with fail
  refine (row_spec n size w1).mono ?_
  rintro e w2 ⟨rfl, hb2⟩
  have hbel2 := bl2 hb1 hb2
  clear hb1 hb2
  generalize rowE n size = rE at *
  generalize rowS n size = rS at *
  go_wp2_with fail
  refine (checkRow_any b w2 HB.out).mono ?_
  rintro e w3 ⟨rfl, hw3⟩
  subst hw3
  go_wp2_with fail
  refine (rowed_any _).mono ?_
  rintro e w4 ⟨rfl, hb4⟩
  have hbel4 := bl2 hbel2 hb4
  clear hb4 hbel2
  go_wp2_with fail
  refine (check_any b w4 HB.out).mono ?_
  rintro e w5 ⟨rfl, hb5⟩
  have hbel5 := bl2 hbel4 hb5
  clear hb5 hbel4
  rcases number_shape b with ⟨hc, h62, hrow, hE, hV⟩ | ⟨hc, h62, hE, hV⟩ | ⟨hc, hE, hV⟩
  · rw [hE, hV, hc]
    have hvl := val_lt _ hrow
    have hlen : b.data.toList.length = b.size := by simp
    rw [hlen] at hvl
    have hv62 : val b.data.toList < 2 ^ 62 := Nat.lt_of_lt_of_le hvl (Nat.pow_le_pow_right (Nat.succ_pos 1) h62)
    have hval := fun W => Ww.value_row b W (by omega) hrow
    have hi64 := fun g W hI => Ww.int64_any g (val b.data.toList) W hI hv62
    have HVA := Hid.mk hval
    have HI6 := Hid.mk hi64
    clear hrow hE hV hc hvl hlen hv62 hval hi64 hbm
    generalize val b.data.toList = vv at *
    go_wp2_with fail
    refine (HVA.out _).mono ?_
    rintro e w6 ⟨rfl, hI, hb6⟩
    have HI := Hid.mk hI
    have hbel6 := bl2 hbel5 hb6
    clear hI hb6 hbel5 HVA
    go_wp2_with fail
    refine (HI6.out _ _ HI.out).mono ?_
    rintro e w7 ⟨rfl, hw7⟩
    have hbelX : Below w.heap.size w w7 := hw7 ▸ hbel6
    clear hw7 hbel6 HI HI6
    rcases HW.out with ⟨hs, rfl, rfl⟩ | ⟨h0, h6, hneg, rfl, rfl⟩ | ⟨S, rfl, hS, rfl, rfl, hrs⟩ | ⟨S, N, rfl, hS, rfl, hN0, hN63, hlt, rfl, hrs⟩ | ⟨S, N, rfl, hS, rfl, hN0, hN63, hlt, rfl, rfl⟩
    · clear HW
      rcases hs with hs | hs
      · go_wp2_with fail
        go_ret
        exact ⟨rfl, hbelX⟩
      · have hs' : decide (size < 0) = false := by rw [decide_eq_false_iff_not]; omega
        go_wp2_with fail
        go_ret
        exact ⟨rfl, hbelX⟩
    · clear HW
      go_wp2_with fail
      go_ret
      exact ⟨rfl, hbelX⟩
    · have HRS := Hid.mk hrs
      clear HW hrs
      go_wp2_with fail
      refine (rowOf_zero S _ hS).mono ?_
      rw [← HRS.out]
      rintro e w8 ⟨rfl, hb8⟩
      have hbel8 := bl2 hbelX hb8
      clear hbelX hb8
      go_wp2_with fail
      go_ret
      exact ⟨rfl, hbel8⟩
    · have hrow := (rowOf_pos N S _ (cell_kept hbelX H.out) hN0 hN63 hS).mono (fun e w' h => (⟨h.1 hlt, h.2.2⟩ : _ ∧ _))
      rw [← hrs] at hrow
      have HRO := Hid.mk hrow
      have hN0' : 0 < (N : Int) := by omega
      clear HW hrs hrow hN63 hlt
      go_wp2_with fail
      refine HRO.out.mono ?_
      rintro e w8 ⟨rfl, hb8⟩
      have hbel8 := bl2 hbelX hb8
      clear hbelX hb8 HRO
      go_wp2_with fail
      go_ret
      exact ⟨rfl, hbel8⟩
    · have hrow := (rowOf_pos N S _ (cell_kept hbelX H.out) hN0 hN63 hS).mono (fun e w' h => (⟨h.2.1 hlt, h.2.2⟩ : _ ∧ _))
      have HRO := Hid.mk hrow
      have hN0' : 0 < (N : Int) := by omega
      clear HW hrow hN63 hlt
      go_wp2_with fail
      refine HRO.out.mono ?_
      rintro e w8 ⟨rfl, hb8⟩
      have hbel8 := bl2 hbelX hb8
      clear hbelX hb8 HRO
      go_wp2_with fail
      go_ret
      exact ⟨rfl, hbel8⟩
  · rw [hE, hV, hc]
    have h62' : 62 < (b.size : Int) := by omega
    have hbelX := hbel5
    clear hE hV hc hbel5
    rcases HW.out with ⟨hs, rfl, rfl⟩ | ⟨h0, h6, hneg, rfl, rfl⟩ | ⟨S, rfl, hS, rfl, rfl, hrs⟩ | ⟨S, N, rfl, hS, rfl, hN0, hN63, hlt, rfl, hrs⟩ | ⟨S, N, rfl, hS, rfl, hN0, hN63, hlt, rfl, rfl⟩
    · clear HW
      rcases hs with hs | hs
      · go_wp2_with fail
        go_ret
        exact ⟨rfl, hbelX⟩
      · have hs' : decide (size < 0) = false := by rw [decide_eq_false_iff_not]; omega
        go_wp2_with fail
        go_ret
        exact ⟨rfl, hbelX⟩
    · clear HW
      go_wp2_with fail
      go_ret
      exact ⟨rfl, hbelX⟩
    · have HRS := Hid.mk hrs
      clear HW hrs
      go_wp2_with fail
      refine (rowOf_zero S _ hS).mono ?_
      rw [← HRS.out]
      rintro e w8 ⟨rfl, hb8⟩
      have hbel8 := bl2 hbelX hb8
      clear hbelX hb8
      go_wp2_with fail
      go_ret
      exact ⟨rfl, hbel8⟩
    · have hrow := (rowOf_pos N S _ (cell_kept hbelX H.out) hN0 hN63 hS).mono (fun e w' h => (⟨h.1 hlt, h.2.2⟩ : _ ∧ _))
      rw [← hrs] at hrow
      have HRO := Hid.mk hrow
      have hN0' : 0 < (N : Int) := by omega
      clear HW hrs hrow hN63 hlt
      go_wp2_with fail
      refine HRO.out.mono ?_
      rintro e w8 ⟨rfl, hb8⟩
      have hbel8 := bl2 hbelX hb8
      clear hbelX hb8 HRO
      go_wp2_with fail
      go_ret
      exact ⟨rfl, hbel8⟩
    · have hrow := (rowOf_pos N S _ (cell_kept hbelX H.out) hN0 hN63 hS).mono (fun e w' h => (⟨h.2.1 hlt, h.2.2⟩ : _ ∧ _))
      have HRO := Hid.mk hrow
      have hN0' : 0 < (N : Int) := by omega
      clear HW hrow hN63 hlt
      go_wp2_with fail
      refine HRO.out.mono ?_
      rintro e w8 ⟨rfl, hb8⟩
      have hbel8 := bl2 hbelX hb8
      clear hbelX hb8 HRO
      go_wp2_with fail
      go_ret
      exact ⟨rfl, hbel8⟩
  · rw [hE, hV]
    have hc' : (checkE b.data.toList == 0) = false := by simpa using hc
    have hbelX := hbel5
    clear hE hV hbel5
    rcases HW.out with ⟨hs, rfl, rfl⟩ | ⟨h0, h6, hneg, rfl, rfl⟩ | ⟨S, rfl, hS, rfl, rfl, hrs⟩ | ⟨S, N, rfl, hS, rfl, hN0, hN63, hlt, rfl, hrs⟩ | ⟨S, N, rfl, hS, rfl, hN0, hN63, hlt, rfl, rfl⟩
    · clear HW
      rcases hs with hs | hs
      · go_wp2_with fail
        go_ret
        exact ⟨rfl, hbelX⟩
      · have hs' : decide (size < 0) = false := by rw [decide_eq_false_iff_not]; omega
        go_wp2_with fail
        go_ret
        exact ⟨rfl, hbelX⟩
    · clear HW
      go_wp2_with fail
      go_ret
      exact ⟨rfl, hbelX⟩
    · have HRS := Hid.mk hrs
      clear HW hrs
      go_wp2_with fail
      refine (rowOf_zero S _ hS).mono ?_
      rw [← HRS.out]
      rintro e w8 ⟨rfl, hb8⟩
      have hbel8 := bl2 hbelX hb8
      clear hbelX hb8
      go_wp2_with fail
      go_ret
      exact ⟨rfl, hbel8⟩
    · have hrow := (rowOf_pos N S _ (cell_kept hbelX H.out) hN0 hN63 hS).mono (fun e w' h => (⟨h.1 hlt, h.2.2⟩ : _ ∧ _))
      rw [← hrs] at hrow
      have HRO := Hid.mk hrow
      have hN0' : 0 < (N : Int) := by omega
      clear HW hrs hrow hN63 hlt
      go_wp2_with fail
      refine HRO.out.mono ?_
      rintro e w8 ⟨rfl, hb8⟩
      have hbel8 := bl2 hbelX hb8
      clear hbelX hb8 HRO
      go_wp2_with fail
      go_ret
      exact ⟨rfl, hbel8⟩
    · have hrow := (rowOf_pos N S _ (cell_kept hbelX H.out) hN0 hN63 hS).mono (fun e w' h => (⟨h.2.1 hlt, h.2.2⟩ : _ ∧ _))
      have HRO := Hid.mk hrow
      have hN0' : 0 < (N : Int) := by omega
      clear HW hrow hN63 hlt
      go_wp2_with fail
      refine HRO.out.mono ?_
      rintro e w8 ⟨rfl, hb8⟩
      have hbel8 := bl2 hbelX hb8
      clear hbelX hb8 HRO
      go_wp2_with fail
      go_ret
      exact ⟨rfl, hbel8⟩
end Bw
end Go.Proofs.YtcoemhndpmdccaaDoor
