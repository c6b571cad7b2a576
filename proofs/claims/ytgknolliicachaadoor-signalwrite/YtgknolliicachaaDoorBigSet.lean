/- omnibusbig's whole numbers: Set and Cmp. -/
import Derived.Test.YtgknolliicachaaDoorBigZ
namespace Go.Proofs.YtgknolliicachaaDoor
open Go.ChangeShapes Go.WideShapes Go.ChangeAt Go.RowKit Go.Sort
namespace Ww
open Wm
open Bw (Tch bl2 cell_kept)
theorem abs_small {r : Int} (h1 : -4611686018427387903 ≤ r) (h2 : r ≤ 4611686018427387903) {xs : List Nat} (hv : valW xs = r.natAbs) : valW xs < 2 ^ 62 := by omega
set_option maxHeartbeats 8000000 in
set_option maxRecDepth 100000 in
theorem set_z (gz : Nat) (cs : List Value) (T : TypeId) (gx ox : Nat) (r : Int) (w : World) (hx : ZAt w gx ox r) (hB : BlkAt w gz cs T) (hi : IntV cs) (hne : gx ≠ gz) (hr1 : -4611686018427387903 ≤ r) (hr2 : r ≤ 4611686018427387903) :
    Calls Tryd.prog 70 #[.pointer (some ⟨gz, 0, none⟩), .pointer (some ⟨gx, ox, none⟩)] w fun e w' => e = .returned (.pointer (some ⟨gz, 0, none⟩)) ∧ OutZ w w' gz 0 cs T r := by
  obtain ⟨va, xs, h1, h2, h3, h4, h5⟩ := hx
  have hl := len_two h4 (abs_small hr1 hr2 h5)
  have hB' : BlkAt w.drew gz cs T := hB
  have HTW := Hid.mk (twin_any va xs w.drew h3 (by omega))
  obtain ⟨b0, a0, l0, c0, hcs⟩ := hi
  have HGV := Hid.mk (fun v' W (hb : Below w.drew.heap.size w.drew W) (hW : IsW W v' xs) => give_z gz 0 cs T (decide (r < 0)) v' xs r W (hB'.kept hb) (IntV.noW ⟨b0, a0, l0, c0, hcs⟩) ⟨b0, by rw [hcs]; rfl⟩ ⟨a0, l0, c0, by rw [hcs]; rfl⟩ hW h4 h5 (fun _ => rfl))
  obtain ⟨a, l, c, rfl⟩ := h3.sliceB
  have hS0 : w.drew.cell? ⟨gx, ox, none⟩ = some (.bool (decide (r < 0))) ∧ w.drew.cell? ⟨gx, ox + 1, none⟩ = some (.slice a l c) := ⟨h1, h2⟩
  generalize decide (r < 0) = R at *
  have HNE := Hid.mk hne
  clear h3 h4 h5 hl hB hB' hr1 hr2 hcs hne
  go_enter Tryd.func70, Tryd.ntmps70
  go_wp2_with fail
  go_region_held3 (fun w' => w'.cell? ⟨gx, ox, none⟩ = some (.bool R) ∧ w'.cell? ⟨gx, ox + 1, none⟩ = some (.slice a l c)) (first | exact hS0 | exact hS1 | exact hS2) (first
    | (go_at_call 78; with_reducible refine HTW.out.mono ?_; rintro e w1 ⟨v', rfl, hW1, hb1⟩
       have hS1 : w1.cell? ⟨gx, ox, none⟩ = some (.bool R) ∧ w1.cell? ⟨gx, ox + 1, none⟩ = some (.slice a l c) := ⟨cell_kept hb1 hS0.1, cell_kept hb1 hS0.2⟩
       have HG := Hid.mk (HGV.out v' w1 hb1 hW1)
       have HB1 := Hid.mk hb1
       clear hW1 hb1)
    | (go_at_call 73; with_reducible refine HG.out.mono ?_; rintro e w2 ⟨rfl, hO⟩
       have hS2 : w2.cell? ⟨gx, ox, none⟩ = some (.bool R) ∧ w2.cell? ⟨gx, ox + 1, none⟩ = some (.slice a l c) := ⟨cell_tch hS1.1 hO.1 (by simpa using HNE.out), cell_tch hS1.2 hO.1 (by simpa using HNE.out)⟩
       have HO := Hid.mk hO
       clear hO))
  go_wp2_with fail
  go_ret
  exact ⟨rfl, HO.out.pre (bl2 (drBw1 w) HB1.out)⟩
end Ww
end Go.Proofs.YtgknolliicachaaDoor
