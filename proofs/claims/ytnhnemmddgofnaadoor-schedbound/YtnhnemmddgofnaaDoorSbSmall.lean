/- What the small functions of package sched answer: a time, what a message takes, how late the next one is. -/
import Derived.Test.YtnhnemmddgofnaaDoorSbRow
import Derived.Test.YtnhnemmddgofnaaDoorDlTakes
namespace Go.Proofs.YtnhnemmddgofnaaDoor
open Go.ChangeShapes Go.WideShapes Go.ChangeAt Go.RowKit
namespace Bw
set_option linter.unusedVariables false
theorem allocQ (w : World) (o : Obj) : (w.alloc o).heap.size = w.heap.size + 1 := Array.size_push _
theorem istime_any (n : Int) (w : World) : Calls Tryd.prog 17 #[.int .i64 n] w fun e w' => e = .returned (.bool (Sb.isTm n)) ∧ w' = w := by
  unfold Sb.isTm
  by_cases h0 : 0 ≤ n
  · rw [decide_eq_true h0, Bool.true_and]
    have hd : decide (0 ≤ n) = true := decide_eq_true h0
    go_enter Tryd.func17, Tryd.ntmps17
    go_wp2_with fail
    go_ret
    exact ⟨rfl, rfl⟩
  · rw [decide_eq_false h0, Bool.false_and]
    have hd : decide (0 ≤ n) = false := decide_eq_false h0
    go_enter Tryd.func17, Tryd.ntmps17
    go_wp2_with fail
    go_ret
    exact ⟨rfl, rfl⟩
set_option maxHeartbeats 1000000 in
theorem stakes_any (r : Tk) (w : World) (hr : okT r = true) (hS : SizesAt w) (hR : RulesAt w) :
    Calls Tryd.prog 33 #[r.val] w fun e w' => e = .returned (.int .i64 (cN r : Nat)) ∧ Below w.heap.size w w' := by
  obtain ⟨h1, h2, h3, h4, h5, h6, h7, h8, h9, h10⟩ := okT_n hr
  have hb := awD w (tkC r)
  have HB := Hid.mk hb
  have HC := Hid.mk (frLong_any false false (r.by_.toNat : Int) (w.alloc (tkC r)) (hS.kept hb) (hR.kept hb))
  rw [longA_short h9] at HC
  have he : ((52 + 10 * r.by_.toNat : Nat) : Int) + 3 = (cN r : Int) := by unfold cN; omega
  have hE : ((52 + 10 * r.by_.toNat : Nat) : Int) ≤ 200 := by omega
  have hE0 : 0 ≤ ((52 + 10 * r.by_.toNat : Nat) : Int) := by omega
  rw [← h10] at HC
  generalize ((52 + 10 * r.by_.toNat : Nat) : Int) = E at *
  obtain ⟨id, by_, ev, la, ji⟩ := r
  generalize cN ⟨id, by_, ev, la, ji⟩ = C at *
  unfold tkC at HB HC
  unfold Tk.val
  simp only at *
  have HE := Hid.mk he
  clear hb hS hR hr h1 h2 h3 h4 h5 h6 h7 h8 h9 h10 he
  go_enter Tryd.func33, Tryd.ntmps33
  go_wp2_with fail
  refine HC.out.mono ?_
  rintro e w1 ⟨rfl, hb1⟩
  have HB1 := Hid.mk (bl2 HB.out hb1)
  clear hb1 HC
  go_wp2_with fail
  go_ret
  refine ⟨?_, HB1.out⟩
  rw [← HE.out]
  rfl
theorem enter_lt : ∀ args w, (callFunc 29 args).run Tryd.prog w = .ok (.enter 29 args) w := enters_of Tryd.func29 (by kernel_rfl) rfl
/-- the maker of what is late -/
theorem lateOf_any (a : Option Addr) (m c : Nat) (lt : List Int) (w : World) (hI : IsNs w a m c lt) (hlt : ∀ x, a = some x → 0 < m → x.block < w.heap.size) :
    Calls Tryd.prog 19 #[.slice a m c] w fun e w' => ∃ b p, e = .returned (ltV b p) ∧ LtAt w' b p a m c lt 0 ∧ w.heap.size ≤ b ∧ w.heap.size ≤ p ∧ p < w'.heap.size ∧ Below w.heap.size w w' := by
  have hb1 := awD w (.cells #[.slice a m c] 23)
  have hb2 := awD (w.alloc (.cells #[.slice a m c] 23)) (.cells #[.int .i64 0] 3)
  have hb := bl2 hb1 hb2
  have HL : Hid (LtAt ((w.alloc (.cells #[.slice a m c] 23)).alloc (.cells #[.int .i64 0] 3)) w.heap.size (w.heap.size + 1) a m c lt 0) := Hid.mk ⟨cell_kept hb2 (cell_of_row _ _ 0 _ _ _ (heap_alloc_new w _)), (by
      unfold BoxAt
      have h := heap_alloc_new (w.alloc (.cells #[.slice a m c] 23)) (.cells #[.int .i64 0] 3)
      rw [show (w.alloc (.cells #[.slice a m c] 23)).heap.size = w.heap.size + 1 from allocQ ..] at h
      rw [Nat.zero_mod]
      exact h), hI.kept hb, by omega, fun x hx h0 => by have := hlt x hx h0; omega⟩
  have HB := Hid.mk hb
  clear hb1 hb2 hb hI hlt
  unfold ltV
  go_enter Tryd.func19, Tryd.ntmps19
  go_wp2_with fail
  go_ret
  exact ⟨w.heap.size, w.heap.size + 1, rfl, HL.out, Nat.le_refl _, by omega, by simp, HB.out⟩
end Bw
end Go.Proofs.YtnhnemmddgofnaaDoor
