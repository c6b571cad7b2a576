/- What omnibusbig's Lsh answers of numbers from 0 on. -/
import Derived.Test.YtopoogdoepdedaaDoorBigGive
namespace Go.Proofs.YtopoogdoepdedaaDoor
open Go.ChangeShapes Go.WideShapes Go.ChangeAt Go.RowKit
namespace Ww
open Wm Bm

theorem isStruct.below {w w' : World} {g : Nat} (h : isStruct w g) (hb : Below w.heap.size w w') : isStruct w' g := by
  obtain ⟨b, s, l, c, hh⟩ := h
  have hlt : g < w.heap.size := by
    rcases Nat.lt_or_ge g w.heap.size with h' | h'
    · exact h'
    · rw [Array.getElem?_eq_none h'] at hh; cases hh
  exact ⟨b, s, l, c, by rw [hb.block g hlt]; exact hh⟩

set_option maxHeartbeats 4000000 in
theorem lsh_any (gz gx nx n : Nat) (w : World) (h : IsInt w gx nx) (hz : isStruct w gz) (hnx : nx < 2 ^ 5000) (hn : n ≤ 5000) :
    Calls Tryd.prog 30 #[.pointer (some ⟨gz, 0, none⟩), .pointer (some ⟨gx, 0, none⟩), .int .u64 n] w fun e w' => e = .returned (.pointer (some ⟨gz, 0, none⟩)) ∧ IsInt w' gz (nx * 2 ^ n) ∧ Touch gz w w' := by
  obtain ⟨va, xs, hh, hW, ht, hv⟩ := h
  have hxl : xs.length ≤ 157 := len_of_val ht hv 5000 hnx 157 (by omega)
  have HW := Hid.mk hW
  have HZ := Hid.mk hz
  obtain ⟨a, ca, rfl, hr⟩ := hW
  have hc0 := cell_of_row w gx 0 _ _ _ hh
  have hc1 := cell_of_row w gx 1 _ _ _ hh
  simp only [List.getElem?_toArray, List.getElem?_cons_zero, List.getElem?_cons_succ] at hc0 hc1
  have HV := Hid.mk hv
  have HWD : Hid (IsW w.drew (.slice a xs.length ca) xs) := HW.out
  have HZD : Hid (isStruct w.drew gz) := HZ.out
  have HC0 : Hid (w.drew.cell? ⟨gx, 0, none⟩ = some (.bool false)) := hc0
  clear hnx hr hh ht hv hz
  go_enter Tryd.func30, Tryd.ntmps30
  go_wp2_with fail
  set_option maxRecDepth 100000 in
  go_region_with (first
    | (go_at_call 54; refine (left_any _ xs n w.drew HWD.out (by omega) (by omega)).mono ?_; rintro e w1 ⟨v1, rs, rfl, hW1, hv1, ht1, hl1, hb1⟩
       have hc01 := Bw.cell_kept hb1 HC0.out
       have hgv := give_any gz v1 rs w1 (isStruct.below HZD.out hb1) hW1 ht1
       have htt : Touch gz w w1 := ⟨hb1.os, hb1.tape, hb1.output, hb1.size, fun k hk _ => hb1.block k hk⟩
       have HT1 := Hid.mk htt
       have HG := Hid.mk hgv
       have HV1 := Hid.mk hv1
       clear hW1 hv1 ht1 hl1 hgv htt hb1)
    | (go_at_call 53; refine HG.out.mono ?_; rintro e w2 ⟨rfl, hI2, ht2⟩))
  all_goals focus
    have HI2 := Hid.mk hI2
    clear hI2
    go_wp2_with fail
    go_ret
    exact ⟨rfl, by rw [← HV.out, ← HV1.out]; exact HI2.out, HT1.out.trans ht2⟩

end Ww
end Go.Proofs.YtopoogdoepdedaaDoor
