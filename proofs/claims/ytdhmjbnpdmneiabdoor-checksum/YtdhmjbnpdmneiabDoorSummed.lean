/- The closed fact that each law of sums asks for: of nine digits the sum that is told everywhere. -/
import Derived.Test.YtdhmjbnpdmneiabDoorCheckSm
import Derived.Test.YtdhmjbnpdmneiabDoorBitsOf
import Derived.Lib.SlBytesConst
namespace Go.Proofs.YtdhmjbnpdmneiabDoor
open Go.ChangeShapes Go.WideShapes Go.ChangeAt Go.RowKit
namespace Bw
open Bm Cm

def nine : List UInt8 := [49, 50, 51, 52, 53, 54, 55, 56, 57]
theorem nine_sum : sumV 4 (ofL nine) = 10673 := by decide +kernel
theorem nine_check : checkE (ofL nine) = 0 := by decide +kernel

def nineC : Obj := .cells #[.int .u8 49, .int .u8 50, .int .u8 51, .int .u8 52, .int .u8 53, .int .u8 54, .int .u8 55, .int .u8 56, .int .u8 57] 5 (9, 10)
theorem nine_bytes (w : World) : IsBytes (w.alloc nineC) (some ⟨w.heap.size, 0, none⟩) 9 9 nine := by
  refine ⟨rfl, Nat.le_refl _, by unfold maxLen; decide, (fun h => by cases h), ?_⟩
  intro x hx i hi
  cases hx
  have e : (Addr.add ⟨w.heap.size, 0, none⟩ i) = ⟨w.heap.size, i, none⟩ := by simp [Addr.add]; exact fun h => h.symm
  rw [e, cell_of_row _ _ i _ _ _ (heap_alloc_new w nineC)]
  match i, hi with
  | 0, _ => rfl
  | 1, _ => rfl
  | 2, _ => rfl
  | 3, _ => rfl
  | 4, _ => rfl
  | 5, _ => rfl
  | 6, _ => rfl
  | 7, _ => rfl
  | 8, _ => rfl

set_option maxHeartbeats 4000000 in
theorem summed_any (w : World) (hR : RulesAt w) :
    Calls Tryd.prog 13 #[] w fun e w' => e = .returned (.bool true) ∧ Below w.heap.size w w' := by
  have kc := fun (w : World) (C : Array Value) (n c : Nat) => Lib.run_convert_bytes_const (P := Tryd.prog) w 37 5 C n c Tryd.underlying37 Tryd.underlying5
  have h1 := of_any _ 9 9 nine (w.alloc nineC) (by omega) (nine_bytes w)
  have hb0 : Below w.heap.size w (w.alloc nineC) := (Below.refl _ _).alloc (Nat.le_refl _) _
  generalize hT : ByteArray.mk (ofL nine).toArray = T at *
  have hTl : T.data.toList = ofL nine := by rw [← hT]
  have h2 := fun W hW => sum_ok 4 T W hW (by rw [hTl]; exact nine_check) (by omega)
  have hS : sumL 4 T.data.toList = bitsHead 10673 16 16 := by unfold sumL; rw [hTl, nine_sum]; rfl
  rw [hS] at h2
  generalize hU : ByteArray.mk (bitsHead 10673 16 16).toArray = U at *
  have hUl : U.data.toList = bitsHead 10673 16 16 := by rw [← hU]
  have h3 := fun W => number_any U W (by rw [ba_size hUl]; unfold maxLen; decide)
  have e1 : numV U.data.toList = 10673 := by rw [hUl]; decide +kernel
  have e2 : numE U.data.toList = 0 := by rw [hUl]; decide +kernel
  rw [e1, e2] at h3
  have H1 := Hid.mk h1
  have H2 := Hid.mk h2
  have H3 := Hid.mk h3
  have HR := Hid.mk hR
  clear h1 h2 h3 e1 e2 hU hUl hS hT hTl hR
  go_enter Tryd.func13, Tryd.ntmps13
  set_option maxRecDepth 100000 in
  go_wp2_with fail
  refine H1.out.mono ?_
  rintro e w1 ⟨rfl, hb1⟩
  have hbel1 := bl2 hb0 hb1
  clear hb0 hb1 H1 kc
  set_option maxRecDepth 100000 in
  go_wp2_with fail
  refine (H2.out w1 (HR.out.kept hbel1)).mono ?_
  rintro e w2 ⟨rfl, hb2⟩
  have hbel2 := bl2 hbel1 hb2
  clear H2 hb2 hbel1
  go_wp2_with fail
  refine (H3.out w2).mono ?_
  rintro e w3 ⟨rfl, hb3⟩
  have hbel3 := bl2 hbel2 hb3
  clear H3 hb3 hbel2
  go_wp2_with fail
  go_ret
  exact ⟨rfl, hbel3⟩
end Bw
end Go.Proofs.YtdhmjbnpdmneiabDoor
