/- What the document's own answers on rows are: CheckRow of any text, RowOf of any number from 0 on, OfBytes of at most 125 bytes. -/
import Derived.Test.YtopoogdoepdedaaDoorFmt2
import Derived.Test.YtopoogdoepdedaaDoorBase8
import Derived.Test.YtopoogdoepdedaaDoorShelfStr
namespace Go.Proofs.YtopoogdoepdedaaDoor
open Go.ChangeShapes Go.WideShapes Go.ChangeAt Go.RowKit
namespace Bw
open Bm

set_option maxHeartbeats 1000000 in
theorem formatInt2 (n : Nat) (w : World) (h : w.cell? ⟨4, 1, none⟩ = some (.int .u8 1)) (hn : n < 2 ^ 63) :
    Calls Tryd.prog 27 #[.int .i64 n, .int .i64 2] w fun e w' => ∃ j, j ≤ 63 ∧ n < 2 ^ (j + 1) ∧ (j = 0 ∨ 2 ^ j ≤ n) ∧ e = .returned (.string ⟨(bitsHead n (j + 1) (j + 1)).toArray⟩) ∧ Below w.heap.size w w' := by
  have hc := formatBits2 n w h hn
  have hn' : (n : Int) < 9223372036854775808 := by omega
  have H := Hid.mk hc
  clear hc h hn
  go_enter Tryd.func27, Tryd.ntmps27
  go_wp2_with (go_at_call 43; go_in)
  refine H.out.mono ?_
  rintro e w1 ⟨j, h1, h2, h3, rfl, hb⟩
  go_wp2_with fail
  go_ret
  exact ⟨j, h1, h2, h3, rfl, hb⟩

theorem repeat_zero (c : Nat) : Lib.repeatL [48] c = List.replicate c 48 := by
  induction c with
  | zero => rfl
  | succ c ih => rw [Lib.repeatL, ih, List.replicate_succ]; rfl

theorem bitAt_high (n j : Nat) (h : n < 2 ^ j) : bitAt n j = 48 := by
  unfold bitAt; rw [Nat.div_eq_of_lt h]; rfl
theorem pad_row (n j size : Nat) (hn : n < 2 ^ j) (hj : j ≤ size) : List.replicate (size - j) 48 ++ bitsHead n j j = bitsHead n size size := by
  apply List.ext_getElem
  · rw [List.length_append, List.length_replicate, bitsHead_length, bitsHead_length]; omega
  · intro i h1 h2
    rw [bitsHead_length] at h2
    by_cases hi : i < size - j
    · rw [List.getElem_append_left (by simpa using hi)]
      simp only [List.getElem_replicate, bitsHead, List.getElem_map, List.getElem_range]
      exact (bitAt_high n _ (Nat.lt_of_lt_of_le hn (Nat.pow_le_pow_right (by omega) (by omega)))).symm
    · rw [List.getElem_append_right (by simpa using hi)]
      simp only [List.length_replicate, bitsHead, List.getElem_map, List.getElem_range]
      congr 1; omega
end Bw
end Go.Proofs.YtopoogdoepdedaaDoor
