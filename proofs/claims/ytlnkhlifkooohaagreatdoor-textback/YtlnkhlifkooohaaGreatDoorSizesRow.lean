/- The table of the numbers of bytes off the row's own condition. -/
import Derived.Test.YtlnkhlifkooohaaGreatDoorRows
import Derived.Test.YtlnkhlifkooohaaGreatDoorFrSmall
import Derived.Lib.LaidU8
namespace Go.Proofs.YtlnkhlifkooohaaGreatDoor
open Go.ChangeShapes Go.WideShapes Go.ChangeAt Go.RowKit
namespace Bw
theorem fsz_eq : Rows.laid_omnibus_frame_sizes (H := Unit) = Lib.tabData .i64 sizesI := by kernel_rfl
theorem fsz_t : Tryz.prog.underlying 193 = some (.array 16 3) := by kernel_rfl
theorem fsz_c : Tryz.prog.cellsOf 193 = 16 := by kernel_rfl
theorem fsz_c1 : Tryz.prog.cellsOf 3 = 1 := by kernel_rfl
theorem fsz_g : Tryz.prog.globalNamed "omnibus/frame.sizes" = some 0 := by kernel_rfl
theorem fsz_y : (Tryz.prog.globals[0]?).map (·.type) = some 193 := by kernel_rfl
theorem sizes_of {W : World} {laid : List (String × DataW Unit)} (hL : laidMet Tryz.prog laid W)
    (h1 : ("omnibus/frame.sizes", Rows.laid_omnibus_frame_sizes) ∈ laid) : SizesAt W := by
  obtain ⟨g, t, cs, fuel, p, hg, hty, hvar, hd⟩ := Lib.laidMet.reads hL h1
  obtain rfl := Option.some.inj (fsz_g.symm.trans hg)
  obtain rfl := Option.some.inj (fsz_y.symm.trans hty)
  rw [fsz_eq] at hd
  have hcs := Lib.cells_of_tab fsz_t Tryz.underlying3 fsz_c1 fsz_c hd
  intro i hi
  have := World.var?_cell hg hvar i
  rw [this, ← Array.getElem?_toList, hcs]
  rw [List.getElem?_map, List.getElem?_eq_getElem hi]
  simp [List.getD, hi]
end Bw
end Go.Proofs.YtlnkhlifkooohaaGreatDoor
