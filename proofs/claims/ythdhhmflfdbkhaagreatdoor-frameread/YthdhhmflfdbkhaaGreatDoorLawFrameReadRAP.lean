/- Joined out of our texts: RefOther. -/
import Derived.Test.YthdhhmflfdbkhaaGreatDoorLawFrameReadRAO
import Derived.Test.YthdhhmflfdbkhaaGreatDoorLawFrameReadRAD
/- What the document's own Other answers, and facts on pieces of texts. -/
namespace Go.Proofs.YthdhhmflfdbkhaaGreatDoor
open Go.ChangeShapes Go.WideShapes Go.ChangeAt Go.RowKit
namespace Bw
open Bm

set_option maxHeartbeats 400000 in
theorem otherR_any (c : UInt8) (w : World) :
    Calls Tryz.prog 20 #[.int .u8 c.toNat] w fun e w' => e = .returned (.int .u8 (otb c).toNat) ∧ w' = w := by
  unfold otb
  by_cases h : c = 48
  · subst h
    rw [if_pos rfl]
    go_enter Tryz.func20, Tryz.ntmps20
    go_wp2; go_ret; exact ⟨rfl, rfl⟩
  · rw [if_neg h]
    have h' : ((c.toNat : Int) == 48) = false := by
      have : c.toNat ≠ (48 : UInt8).toNat := fun e => h (UInt8.toNat_inj.1 e)
      rw [beq_eq_false_iff_ne]
      intro e
      exact this (by show c.toNat = 48; omega)
    go_enter Tryz.func20, Tryz.ntmps20
    go_wp2; go_ret; exact ⟨rfl, rfl⟩

theorem convert_lit (W : World) (g : Nat) (d : UInt8) (hg : W.heap[g]? = some (.cells #[.int .u8 d.toNat] 5 (0, 0))) :
    (convert 22 9 (.slice (some ⟨g, 0, none⟩) 1 1)).run Tryz.prog W = .ok (.string ⟨#[d]⟩) W :=
  run_convert_bytes_back W 22 9 5 ⟨g, 0, none⟩ 1 [d] Tryz.underlying22 Tryz.underlying5 Tryz.underlying9 (fun j hj => by
    match j, hj with
    | 0, _ => exact cell_of_row W g 0 _ _ _ hg)
theorem one_at (s : ByteArray) (k : Nat) (h : k < s.size) : s.extract k (k + 1) = ⟨#[s[k]]⟩ := by
  have e : (s.extract k (k + 1)).data.toList = [s[k]] := by
    rw [extract_list s k 1, List.take_one, List.head?_drop]
    have h' : k < s.data.toList.length := by simpa using h
    rw [List.getElem?_eq_getElem h']
    rfl
  exact ba_eq e
theorem ext_size (s : ByteArray) (i j : Nat) (h : j ≤ s.size) : (s.extract i j).size = j - i := by
  rw [ByteArray.size_extract]; omega

end Bw
end Go.Proofs.YthdhhmflfdbkhaaGreatDoor
