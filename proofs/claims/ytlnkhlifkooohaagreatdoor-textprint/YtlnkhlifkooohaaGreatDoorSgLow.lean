/- What package signal's lowest answers: a fraction in lowest terms. -/
import Derived.Test.YtlnkhlifkooohaaGreatDoorSgSpan
namespace Go.Proofs.YtlnkhlifkooohaaGreatDoor
open Go.ChangeShapes Go.WideShapes Go.ChangeAt Go.RowKit Go.Sort
namespace Bw
open Sm
theorem gcd_step (x y : Int) : Int.gcd y (x.tmod y) = Int.gcd x y := by
  unfold Int.gcd
  rw [Int.natAbs_tmod, Nat.gcd_comm, ← Nat.gcd_rec, Nat.gcd_comm]
theorem tmod_small (x y : Int) (h : y ≠ 0) : (x.tmod y).natAbs < y.natAbs := by
  rw [Int.natAbs_tmod]
  exact Nat.mod_lt _ (by omega)
theorem tdiv_num {n d : Int} : n.tdiv (Int.gcd n d : Int) = numL n d := Int.tdiv_eq_ediv_of_dvd (Int.gcd_dvd_left ..)
theorem tdiv_den {n d : Int} : d / (Int.gcd n d : Int) = denL n d := rfl
set_option maxHeartbeats 4000000 in
theorem lowest_any (n d : Int) (w : World) (hd : 1 ≤ d) (hd2 : d ≤ 4000000000000000000) (hn1 : -4000000000000000000 ≤ n) (hn2 : n ≤ 4000000000000000000) :
    Calls Tryz.prog 139 #[.int .i64 n, .int .i64 d] w fun e w' => e = .returned (.tuple #[.int .i64 (numL n d), .int .i64 (denL n d)]) ∧ Below w.heap.size w w' := by
  have hg0 := gcd_pos (n := n) (d := d) (by omega)
  have hgd : (Int.gcd n d : Int) ≤ d := Int.le_of_dvd (by omega) (Int.gcd_dvd_right ..)
  have hqn := tdiv_num (n := n) (d := d)
  have hqd := tdiv_den (n := n) (d := d)
  obtain ⟨G, hG⟩ : ∃ G, G = Int.gcd n d := ⟨_, rfl⟩
  rw [← hG] at hg0 hgd hqn hqd
  have HG := Hid.mk hG
  have HQN := Hid.mk hqn
  have HQD := Hid.mk hqd
  clear hG hqn hqd
  go_enter Tryz.func139, Tryz.ntmps139
  go_wp2_with fail
  go_loopw [6, 7] (fun a b wr => ∃ x y : Int, a = .int .i64 x ∧ b = .int .i64 y ∧ x.natAbs ≤ 4000000000000000000 ∧ y.natAbs ≤ 4000000000000000000 ∧ Hid (Int.gcd x y = G) ∧ Hid (Below w.heap.size w wr)) (fun _ b _ => (intOf b).natAbs)
  case atStart => exact ⟨d, n, rfl, rfl, by omega, by omega, Hid.mk (by rw [HG.out]; exact Int.gcd_comm d n), Hid.mk (Below.refl _ _)⟩
  case round =>
    obtain ⟨x, y, rfl, rfl, hx, hy, HXY, HB⟩ := hrel
    by_cases h0 : y = 0
    · subst h0
      have hxG : x.natAbs = G := by have := HXY.out; rwa [Int.gcd_zero_right] at this
      have hmax : ∀ ts t W, (Builtin.max_ ts t #[.int .i64 x, .int .i64 (-x)]).run Tryz.prog W = .ok (.int .i64 (G : Int)) W := by
        intro ts t W
        simp [Builtin.max_, Builtin.max2]
        split <;> omega
      have hx1 : -4000000000000000000 ≤ x := by omega
      have hx2 : x ≤ 4000000000000000000 := by omega
      have g0 : ((G : Int) == 0) = false := by simp; omega
      have g1 : (0 : Int) < (G : Int) := by omega
      clear hxG hx hy
      go_wp2_with fail
      go_quiet (fail)
      go_wp2_with fail
      go_ret2
      exact ⟨by rw [← HQN.out, ← HQD.out]; rfl, drB HB.out _⟩
    · have hb : (y == 0) = false := by simpa using h0
      have hb2 : (y != 0) = true := by simpa using h0
      have hst := gcd_step x y
      rw [HXY.out] at hst
      have HST := Hid.mk hst
      have hsm := tmod_small x y h0
      have hx1 : -4000000000000000000 ≤ x := by omega
      have hx2 : x ≤ 4000000000000000000 := by omega
      have hy1 : -4000000000000000000 ≤ y := by omega
      have hy2 : y ≤ 4000000000000000000 := by omega
      have HSM := Hid.mk hsm
      have HY := Hid.mk hy
      clear hst hsm hx hy
      go_wp2_with fail
      go_quiet (fail)
      go_wp2_with fail
      go_roundw
      case rel => exact ⟨y, x.tmod y, rfl, rfl, HY.out, by have := HSM.out; have := HY.out; omega, HST, Hid.mk (drB HB.out _)⟩
      case measure => simp only [intOf]; exact HSM.out
end Bw
end Go.Proofs.YtlnkhlifkooohaaGreatDoor
