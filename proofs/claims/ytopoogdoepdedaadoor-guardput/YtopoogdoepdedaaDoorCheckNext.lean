/- What the method next of check.rule answers: one step of the register. -/
import Derived.Test.YtopoogdoepdedaaDoorBitsRow
import Derived.Test.YtopoogdoepdedaaDoorStepMath
namespace Go.Proofs.YtopoogdoepdedaaDoor
open Go.ChangeShapes Go.WideShapes Go.ChangeAt Go.RowKit
namespace Bw
open Bm Cm

theorem mask_walk (n s : Nat) (hs : s ≤ 21) (hn : n ≤ 2097151) : bits .and .i64 ((n : Int) * 2) (wrap64 (wrap64 (2 ^ s) - 1)) = ((2 * n % 2 ^ s : Nat) : Int) := by
  obtain ⟨h1, h2⟩ := pow_small s hs
  have e1 : wrap64 (2 ^ s) = (2 : Int) ^ s := by unfold wrap64; omega
  have e2 : wrap64 ((2 : Int) ^ s - 1) = (2 : Int) ^ s - 1 := by unfold wrap64; omega
  rw [e1, e2]
  have e3 : (n : Int) * 2 = ((2 * n : Nat) : Int) := by omega
  rw [e3]
  exact mask_i64 (2 * n) s hs (by omega)
theorem out_walk (n s : Nat) (hs1 : 1 ≤ s) : (n : Int) * 2 / 2 ^ s = ((n / 2 ^ (s - 1) : Nat) : Int) := by
  rw [Int.mul_comm]; exact out_int n s hs1

set_option maxHeartbeats 1000000 in
theorem next_any (s p f en n d : Nat) (w : World) (hs1 : 1 ≤ s) (hs : s ≤ 21) (hp : p < 2 ^ s) (hn : n < 2 ^ s) :
    Calls Tryd.prog 61 #[.agg #[.int .i64 s, .int .i64 p, .int .i64 f, .int .i64 en], .int .i64 n, .int .i64 d] w fun e w' => e = .returned (.int .i64 (crcStep s p n d)) ∧ Below w.heap.size w w' := by
  have h21 : 2 ^ s ≤ 2 ^ 21 := Nat.pow_le_pow_right (by omega) hs
  have hnb : (n : Int) ≤ 2097151 := by omega
  have hpb : p ≤ 2097151 := by omega
  have hs1' : (1 : Int) ≤ (s : Int) := by omega
  have hs' : (s : Int) ≤ 21 := by omega
  have HM := Hid.mk (mask_walk n s hs (by omega))
  have HO := Hid.mk (out_walk n s hs1)
  have HB := Hid.mk (show 2 * n % 2 ^ s < 2 ^ s from Nat.mod_lt _ (Nat.two_pow_pos s))
  have HC := Hid.mk h21
  clear h21 hp hn
  by_cases hd : n / 2 ^ (s - 1) = d
  · have hc : ((n : Int) * 2 / 2 ^ s != (d : Int)) = false := by rw [HO.out, hd]; simp
    go_enter Tryd.func61, Tryd.ntmps61
    go_wp2_with fail
    go_ret
    exact ⟨by rw [HM.out, step_eq s p n d hd]; rfl, (Below.refl _ _).alloc (Nat.le_refl _) _⟩
  · have hc : ((n : Int) * 2 / 2 ^ s != (d : Int)) = true := by
      rw [HO.out, bne_iff_ne]
      intro h
      exact hd (by exact_mod_cast h)
    go_enter Tryd.func61, Tryd.ntmps61
    go_wp2_with fail
    go_ret
    refine ⟨?_, (Below.refl _ _).alloc (Nat.le_refl _) _⟩
    have h1 := HB.out
    have h2 := HC.out
    rw [HM.out, step_ne s p n d hd, xor_i64 _ _ (by omega) (by omega)]
    rfl
end Bw
end Go.Proofs.YtopoogdoepdedaaDoor
