/- What delay.takes answers of a right task. -/
import Derived.Test.YtnhnemmddgofnaaDoorDlSmall
import Derived.Test.YtnhnemmddgofnaaDoorFrLong
namespace Go.Proofs.YtnhnemmddgofnaaDoor
open Go.ChangeShapes Go.WideShapes Go.ChangeAt Go.RowKit
namespace Bw
set_option linter.unusedVariables false
theorem frE_short {n : Nat} (h : n ≤ 8) : frEn 0 false false false 0 n = 0 := by
  have h1 : n = 0 ∨ n = 1 ∨ n = 2 ∨ n = 3 ∨ n = 4 ∨ n = 5 ∨ n = 6 ∨ n = 7 ∨ n = 8 := by omega
  rcases h1 with rfl | rfl | rfl | rfl | rfl | rfl | rfl | rfl | rfl <;> decide
theorem longN_short {n : Nat} (h : n ≤ 8) : longN false false n = 52 + 10 * n := by
  have h1 := headL_len (frZ false false n)
  have h2 : (frZ false false n).dt.length = n := by simp [frZ]
  rw [h2] at h1
  have h3 : (midL (frZ false false n)).length = 1 := rfl
  rw [h3] at h1
  have h4 : (frZ false false n).lo = false := rfl
  rw [h4, if_neg (by simp)] at h1
  unfold longN
  rw [if_neg (by simp), h1]
  unfold mostN
  omega
theorem longA_short {n : Nat} (h : n ≤ 8) : longA false false (n : Int) = .tuple #[.int .i64 ((52 + 10 * n : Nat) : Int), .int .i64 0] := by
  have h1 : longE false false (n : Int) = 0 := by
    unfold longE
    rw [if_neg (by omega)]
    exact frE_short h
  unfold longA
  rw [if_pos h1, Int.toNat_natCast, longN_short h]
set_option maxHeartbeats 1000000 in
theorem takes_any (r : Tk) (w : World) (hr : okT r = true) (hS : SizesAt w) (hR : RulesAt w) :
    Calls Tryd.prog 36 #[r.val] w fun e w' => e = .returned (.int .i64 (cN r : Nat)) ∧ Below w.heap.size w w' := by
  obtain ⟨h1, h2, h3, h4, h5, h6, h7, h8, h9, h10⟩ := okT_n hr
  have hb := awD w (tkC r)
  have HB := Hid.mk hb
  have HC := Hid.mk (frLong_any false false (r.by_.toNat : Int) (w.alloc (tkC r)) (hS.kept hb) (hR.kept hb))
  rw [longA_short h9] at HC
  have he : ((52 + 10 * r.by_.toNat : Nat) : Int) + 3 = (cN r : Int) := by unfold cN; omega
  have hE : ((52 + 10 * r.by_.toNat : Nat) : Int) ≤ 200 := by omega
  have hE0 : 0 ≤ ((52 + 10 * r.by_.toNat : Nat) : Int) := by omega
  rw [← h10] at HC
  generalize ((52 + 10 * r.by_.toNat : Nat) : Int) = E at *
  obtain ⟨id, by_, ev, la, ji⟩ := r
  generalize cN ⟨id, by_, ev, la, ji⟩ = C at *
  unfold tkC at HB HC
  unfold Tk.val
  simp only at *
  have HE := Hid.mk he
  clear hb hS hR hr h1 h2 h3 h4 h5 h6 h7 h8 h9 h10 he
  go_enter Tryd.func36, Tryd.ntmps36
  go_wp2_with fail
  refine HC.out.mono ?_
  rintro e w1 ⟨rfl, hb1⟩
  have HB1 := Hid.mk (bl2 HB.out hb1)
  clear hb1 HC
  go_wp2_with fail
  go_ret
  refine ⟨?_, HB1.out⟩
  rw [← HE.out]
  rfl
end Bw
end Go.Proofs.YtnhnemmddgofnaaDoor
