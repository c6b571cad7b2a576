/- The table of powers of ten off the row's own condition. -/
import Derived.Test.YtlnkhlifkooohaaGreatDoorRows
import Derived.Test.YtlnkhlifkooohaaGreatDoorTxBase
import Derived.Lib.LaidU8
import Derived.Shelf.Vars
namespace Go.Proofs.YtlnkhlifkooohaaGreatDoor
open Go.ChangeShapes Go.WideShapes Go.ChangeAt Go.RowKit
namespace Bw
theorem pow_eq : Rows.laid_internal_strconv_uint64pow10 (H := Unit) = Lib.tabData .u64 Lib.pow10Tab := by kernel_rfl
theorem pow_t : Tryz.prog.underlying 219 = some (.array 20 145) := by kernel_rfl
theorem pow_c : Tryz.prog.cellsOf 219 = 20 := by kernel_rfl
theorem pow_c1 : Tryz.prog.cellsOf 145 = 1 := by kernel_rfl
theorem pow_g : Tryz.prog.globalNamed "internal/strconv.uint64pow10" = some 1 := by kernel_rfl
theorem pow_y : (Tryz.prog.globals[1]?).map (·.type) = some 219 := by kernel_rfl
theorem pow_of {W : World} {laid : List (String × DataW Unit)} (hL : laidMet Tryz.prog laid W)
    (h1 : ("internal/strconv.uint64pow10", Rows.laid_internal_strconv_uint64pow10) ∈ laid) : Lib.TabIs Tryz.prog W "internal/strconv.uint64pow10" .u64 Lib.pow10Tab := by
  obtain ⟨g, t, cs, fuel, p, hg, hty, hvar, hd⟩ := Lib.laidMet.reads hL h1
  obtain rfl := Option.some.inj (pow_g.symm.trans hg)
  obtain rfl := Option.some.inj (pow_y.symm.trans hty)
  rw [pow_eq] at hd
  have hcs := Lib.cells_of_tab pow_t Tryz.underlying145 pow_c1 pow_c hd
  unfold Lib.TabIs
  rw [hvar]
  congr 1
  apply Array.ext'
  rw [hcs]
theorem max_of {W : World} (hsh : W.ShapedOpen Tryz.prog) : ∃ m, W.cell? ⟨2, 0, none⟩ = some (.int .i64 m) :=
  cell_of_shapedOpen_int (g := 2) (t := 3) (zero := #[.int .i64 0]) (k := .i64) hsh (of_decide_eq_true (by kernel_rfl)) (by kernel_rfl) rfl (by kernel_rfl) (by kernel_rfl) Tryz.underlying3
end Bw
end Go.Proofs.YtlnkhlifkooohaaGreatDoor
