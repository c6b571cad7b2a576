/- The closed fact that the laws on guards ask first: one that is good. -/
import Derived.Test.YtopoogdoepdedaaDoorGdSee2
namespace Go.Proofs.YtopoogdoepdedaaDoor
open Go.ChangeShapes Go.WideShapes Go.ChangeAt Go.RowKit Go.Sort
namespace Bw
open Bm Cm
def g3C : Obj := .cells #[.int .u8 0, .int .u8 240, .int .u8 5] 5
theorem g3_at (w : World) : IsBytes (w.alloc g3C) (some ⟨w.heap.size, 0, none⟩) 3 3 [0, 240, 5] := by
  refine ⟨rfl, Nat.le_refl _, by unfold maxLen; omega, (fun h => by cases h), fun a ha i hi => ?_⟩
  cases ha
  rw [Addr.add_lit, Nat.zero_add, cell_of_row _ _ i _ _ _ (heap_alloc_new w g3C)]
  match i, hi with
  | 0, _ => rfl
  | 1, _ => rfl
  | 2, _ => rfl
set_option maxHeartbeats 8000000 in
set_option maxRecDepth 100000 in
theorem guarded_any (w : World) (hR : RulesAt w) :
    Calls Tryd.prog 7 #[] w fun e w' => e = .returned (.bool true) ∧ Below w.heap.size w w' := by
  have HA := Hid.mk (awG w g3C)
  have HPUT := Hid.mk (put_ok 7 3 (some ⟨w.heap.size, 0, none⟩) 3 3 [0, 240, 5] (w.alloc g3C) (hR.kept (awG w g3C)) (g3_at w) (by omega) (by omega) (by omega) (by omega))
  obtain ⟨L, hL⟩ : ∃ L, putL 7 3 [0, 240, 5] = L := ⟨_, rfl⟩
  have e0 : (L.getD 0 0).toNat = gSum 7 L := by rw [← hL]; exact putL_at0 (by decide) 7 3
  have e1 : (L.getD 1 0).toNat = 243 := by rw [← hL]; exact putL_at1 (by decide) 7 (show 3 < 16 by omega)
  rw [hL] at HPUT
  have HSEE := Hid.mk (fun g c W (hb : Below w.heap.size w W) (hY : IsBytes W (some ⟨g, 0, none⟩) 3 c L) => see_good 7 2 0 0 1 3 (some ⟨g, 0, none⟩) 3 c L W (hR.kept hb) hY (by omega) (by omega) (by omega) (by omega) (by omega) (by omega) ⟨by omega, by omega⟩ ⟨by omega, by omega⟩ e0 (by rw [e1]) (by omega) (Or.inr (by decide)))
  have hLn : L.length = 3 := by rw [← hL, putL_len]; rfl
  have hat := cells_atG L 1 (by omega)
  rw [e1] at hat
  have HAT := Hid.mk hat
  unfold gdV at HSEE
  unfold g3C at HA HPUT
  clear hR hL e0 e1 hLn hat
  go_enter Tryd.func7, Tryd.ntmps7
  go_wp2_with fail
  refine HPUT.out.mono ?_
  rintro e w1 ⟨g, c, rfl, hown, -, hb1⟩
  have HB1 := Hid.mk (bl2 HA.out hb1)
  have HO1 := Hid.mk hown
  have HSS := Hid.mk (HSEE.out g c w1 HB1.out (isBytes_ownG hown))
  clear hown hb1 HPUT HSEE HA
  go_wp2_with fail
  refine HSS.out.mono ?_
  rintro e w2 ⟨rfl, hb2⟩
  have HB2 := Hid.mk (bl2 HB1.out hb2)
  have HO2 := Hid.mk (ownsRow_below HO1.out hb2)
  have HA2 := Hid.mk (awG w2 (gdC 7 3 0 1))
  have hc := (ownsRow_below HO2.out HA2.out).cellAt 1 (by omega)
  rw [HAT.out] at hc
  have HB3 := Hid.mk (bl2 HB2.out HA2.out)
  unfold gdC at hc HB3
  clear hb2 HSS HO1 HB1 HA2
  go_wp2_with fail
  go_ret
  exact ⟨rfl, HB3.out⟩
end Bw
end Go.Proofs.YtopoogdoepdedaaDoor
