/- What bits.Check answers of any text: whether it is a row of bits, and else which error. -/
import Derived.Test.YtopoogdoepdedaaDoorChecked
import Derived.Test.YtopoogdoepdedaaDoorBitsMath
import Derived.WalkKit
import Derived.ProofKit
import Derived.Lib.OthersKept
import Derived.Deep.QuietTactic
import Derived.BigQuiet
namespace Go.Proofs.YtopoogdoepdedaaDoor
open Go.ChangeShapes Go.WideShapes Go.ChangeAt Go.RowKit
namespace Bw
open Bm

def fewE (l : List UInt8) : Int := if rowB l then 0 else 4
theorem below_iter (w : World) (s : ByteArray) (pos : Nat) : Below w.heap.size w (w.iter s pos) := (Below.refl _ _).alloc (Nat.le_refl _) _

set_option maxHeartbeats 400000 in
theorem isBit_yes (r : Int) (w : World) (h : r = 48 ∨ r = 49) :
    Calls Tryd.prog 60 #[.int .i32 r] w fun e w' => e = .returned (.bool true) ∧ w' = w := by
  rcases h with rfl | rfl <;> (go_enter Tryd.func60, Tryd.ntmps60; go_wp2; go_ret; exact ⟨rfl, rfl⟩)
set_option maxHeartbeats 400000 in
theorem isBit_no (r : Int) (w : World) (h : r ≠ 48 ∧ r ≠ 49) :
    Calls Tryd.prog 60 #[.int .i32 r] w fun e w' => e = .returned (.bool false) ∧ w' = w := by
  obtain ⟨h1, h2⟩ := h
  have g1 : (r == 48) = false := by simpa using h1
  have g2 : (r == 49) = false := by simpa using h2
  clear h1 h2
  go_enter Tryd.func60, Tryd.ntmps60
  go_wp2
  go_ret
  exact ⟨rfl, rfl⟩

set_option maxHeartbeats 1000000 in
theorem check_many (s : ByteArray) (w : World) (hs : s.size ≤ maxLen) (hm : 1000 < s.size) :
    Calls Tryd.prog 39 #[.string s] w fun e w' => e = .returned (.int .i64 2) ∧ w' = w := by
  unfold maxLen at hs
  go_enter Tryd.func39, Tryd.ntmps39
  go_wp2
  go_ret
  exact ⟨rfl, rfl⟩

set_option maxHeartbeats 1000000 in
theorem check_few (s : ByteArray) (w : World) (hm : s.size ≤ 1000) :
    Calls Tryd.prog 39 #[.string s] w fun e w' => e = .returned (.int .i64 (fewE s.data.toList)) ∧ Below w.heap.size w w' := by
  go_enter Tryd.func39, Tryd.ntmps39
  go_wp2
  go_loopw [4] (fun _ w' => ∃ pos : Nat, w' = w.iter s pos ∧ pos ≤ s.size ∧ rowB (s.data.toList.take pos) = true) (fun _ w' => s.size - w'.iterPos w.heap.size)
  case atStart => exact ⟨0, rfl, Nat.zero_le _, rfl⟩
  case round =>
    obtain ⟨pos, rfl, hpos, hrow⟩ := hrel
    have HR : Hid (rowB (s.data.toList.take pos) = true) := hrow
    clear hrow
    by_cases hp : pos < s.size
    · by_cases hb : bit s[pos] = true
      · have ha : (s[pos]'hp).toNat < 128 := by rcases (bit_iff _).1 hb with h | h <;> omega
        have hb' := (bit_iff _).1 hb
        have hnx : ∀ ty, (Instr.next (.pointer (some ⟨w.heap.size, 0, none⟩)) true ty).run Tryd.prog (w.iter s pos) = _ := fun ty => run_next_ascii w s pos ty hp ha
        have HB : Hid (bit s[pos] = true) := hb
        clear hb
        go_wp2_with (go_at_call 60; refine (isBit_yes _ _ hb').mono ?_; rintro e w' ⟨rfl, rfl⟩)
        go_roundw
        case rel => exact ⟨pos + 1, rfl, by omega, by rw [take_snoc s pos hp, rowB_snoc, HR.out, HB.out]; rfl⟩
        case measure => simp; omega
      · have hb0 : bit s[pos] = false := by simpa using hb
        have hne : (((Utf8.decode s pos).1 : Nat) : Int) ≠ 48 ∧ (((Utf8.decode s pos).1 : Nat) : Int) ≠ 49 := by
          by_cases ha : (s[pos]'hp).toNat < 128
          · rw [decode_ascii s pos hp ha]
            have hx : ¬ ((s[pos].toNat : Int) = 48 ∨ (s[pos].toNat : Int) = 49) := fun h => hb ((bit_iff s[pos]).2 h)
            simp only; omega
          · have := (decode_high s pos hp (by omega)).1; omega
        have HB : Hid (rowB s.data.toList = false) := rowB_not pos hp hb0
        have hnx : ∀ ty, (Instr.next (.pointer (some ⟨w.heap.size, 0, none⟩)) true ty).run Tryd.prog (w.iter s pos) = _ := fun ty => run_next_any w s pos ty hp
        clear hb hb0
        go_wp2_with (go_at_call 60; refine (isBit_no _ _ hne).mono ?_; rintro e w' ⟨rfl, rfl⟩)
        go_ret
        exact ⟨by rw [fewE, HB.out]; rfl, below_iter _ _ _⟩
    · have hnx : ∀ ty, (Instr.next (.pointer (some ⟨w.heap.size, 0, none⟩)) true ty).run Tryd.prog (w.iter s pos) = _ := fun ty => run_next_end w s pos ty hp
      have HB : Hid (rowB s.data.toList = true) := by
        have := HR.out
        rwa [List.take_of_length_le (by simp; omega)] at this
      go_wp2
      go_ret
      exact ⟨by rw [fewE, HB.out]; rfl, below_iter _ _ _⟩

theorem check_any (s : ByteArray) (w : World) (hs : s.size ≤ maxLen) :
    Calls Tryd.prog 39 #[.string s] w fun e w' => e = .returned (.int .i64 (checkE s.data.toList)) ∧ Below w.heap.size w w' := by
  unfold checkE
  by_cases hm : 1000 < s.size
  · rw [if_pos (by simpa using hm)]
    refine (check_many s w hs hm).mono ?_
    rintro e w' ⟨rfl, rfl⟩; exact ⟨rfl, Below.refl _ _⟩
  · rw [if_neg (by simpa using hm)]
    exact check_few s w (by omega)

end Bw
end Go.Proofs.YtopoogdoepdedaaDoor
