/- Joined out of our texts: SizesRow, RulesRow, BruijnRow, FreadWalk. -/
import Derived.Test.YthdhhmflfdbkhaaGreatDoorRows
import Derived.Test.YthdhhmflfdbkhaaGreatDoorLawFrameReadPAA
import Derived.Lib.LaidU8
import Derived.Test.YthdhhmflfdbkhaaGreatDoorLawFrameReadPAB
import Derived.Test.YthdhhmflfdbkhaaGreatDoorLawFrameReadPAC
import Derived.Test.YthdhhmflfdbkhaaGreatDoorLawFrameReadRAO
import Derived.Test.YthdhhmflfdbkhaaGreatDoorLawFrameReadRBM
/- The table of the numbers of bytes off the row's own condition. -/
namespace Go.Proofs.YthdhhmflfdbkhaaGreatDoor
open Go.ChangeShapes Go.WideShapes Go.ChangeAt Go.RowKit
namespace Bw
theorem fsz_eq : Rows.laid_omnibus_frame_sizes (H := Unit) = Lib.tabData .i64 sizesI := by kernel_rfl
theorem fsz_t : Tryz.prog.underlying 81 = some (.array 16 3) := by kernel_rfl
theorem fsz_c : Tryz.prog.cellsOf 81 = 16 := by kernel_rfl
theorem fsz_c1 : Tryz.prog.cellsOf 3 = 1 := by kernel_rfl
theorem fsz_g : Tryz.prog.globalNamed "omnibus/frame.sizes" = some 0 := by kernel_rfl
theorem fsz_y : (Tryz.prog.globals[0]?).map (·.type) = some 81 := by kernel_rfl
theorem sizes_of {W : World} {laid : List (String × DataW Unit)} (hL : laidMet Tryz.prog laid W)
    (h1 : ("omnibus/frame.sizes", Rows.laid_omnibus_frame_sizes) ∈ laid) : SizesAt W := by
  obtain ⟨g, t, cs, fuel, p, hg, hty, hvar, hd⟩ := Lib.laidMet.reads hL h1
  obtain rfl := Option.some.inj (fsz_g.symm.trans hg)
  obtain rfl := Option.some.inj (fsz_y.symm.trans hty)
  rw [fsz_eq] at hd
  have hcs := Lib.cells_of_tab fsz_t Tryz.underlying3 fsz_c1 fsz_c hd
  intro i hi
  have := World.var?_cell hg hvar i
  rw [this, ← Array.getElem?_toList, hcs]
  rw [List.getElem?_map, List.getElem?_eq_getElem hi]
  simp [List.getD, hi]
end Bw
end Go.Proofs.YthdhhmflfdbkhaaGreatDoor

/- The table of kinds off the row's own condition: its cells hold the sizes, polynomials, starts and ends. -/
namespace Go.Proofs.YthdhhmflfdbkhaaGreatDoor
open Go.ChangeShapes Go.WideShapes Go.ChangeAt Go.RowKit
namespace Bw
open Cm
def ruleZ (k : Nat) : List Int := [(kS k : Int), (kP k : Int), (kF k : Int), (kE k : Int)]
def rulesD : List (DataW Unit) := [0, 1, 2, 3, 4].map fun k => .agg ((ruleZ k).map fun z => .lit (.int .i64 z))
theorem five_at (k : Nat) (hk : k ≤ 4) : [0, 1, 2, 3, 4][k]? = some k := by
  match k, hk with
  | 0, _ => rfl
  | 1, _ => rfl
  | 2, _ => rfl
  | 3, _ => rfl
  | 4, _ => rfl
theorem rulesD_at (k : Nat) (hk : k ≤ 4) : rulesD[k]? = some (.agg ((ruleZ k).map fun z => .lit (.int .i64 z))) := by
  rw [rulesD, List.getElem?_map, five_at k hk]; rfl
theorem rules_eq : Rows.laid_omnibus_check_rules (H := Unit) = .agg rulesD := by kernel_rfl
theorem rules_t : Tryz.prog.underlying 116 = some (.array 5 115) := by kernel_rfl
theorem rule_c : Tryz.prog.cellsOf 115 = 4 := by kernel_rfl
theorem int_c : Tryz.prog.cellsOf 3 = 1 := by kernel_rfl
theorem rules_g : Tryz.prog.globalNamed "omnibus/check.rules" = some 1 := by kernel_rfl
theorem rules_y : (Tryz.prog.globals[1]?).map (·.type) = some 116 := by kernel_rfl
theorem rules_of {W : World} {laid : List (String × DataW Unit)} (hL : laidMet Tryz.prog laid W)
    (h1 : ("omnibus/check.rules", Rows.laid_omnibus_check_rules) ∈ laid) : RulesAt W := by
  obtain ⟨g, t, cs, fuel, p, hg, hty, hvar, hd⟩ := Lib.laidMet.reads hL h1
  obtain rfl := Option.some.inj (rules_g.symm.trans hg)
  obtain rfl := Option.some.inj (rules_y.symm.trans hty)
  rw [rules_eq] at hd
  intro k hk
  obtain ⟨fuel', d, q, hdk, htr⟩ := Lib.array_elem rules_t hd k (by omega)
  have hdd : d = .agg ((ruleZ k).map fun z => .lit (.int .i64 z)) := by
    have := rulesD_at k hk
    rw [hdk] at this
    exact Option.some.inj this
  subst hdd
  have hz := Lib.ints_of_struct Tryz.underlying115 (by
    intro i f h
    match i, h with
    | 0, h => cases h; exact ⟨Tryz.underlying3, rfl, int_c⟩
    | 1, h => cases h; exact ⟨Tryz.underlying3, rfl, int_c⟩
    | 2, h => cases h; exact ⟨Tryz.underlying3, rfl, int_c⟩
    | 3, h => cases h; exact ⟨Tryz.underlying3, rfl, int_c⟩
    | i + 4, h => simp at h) rule_c htr
  rw [rule_c] at hz
  have hc : ∀ j, j < 4 → cs[k * 4 + j]? = ((ruleZ k).map fun z => Value.int .i64 z)[j]? := by
    intro j hj
    rw [← hz, List.getElem?_take_of_lt hj, List.getElem?_drop, Array.getElem?_toList]
  have hv := fun j => World.var?_cell hg hvar j
  refine ⟨?_, ?_, ?_, ?_⟩
  · rw [hv, ← Nat.add_zero (k * 4), hc 0 (by omega)]; rfl
  · rw [hv, hc 1 (by omega)]; rfl
  · rw [hv, hc 2 (by omega)]; rfl
  · rw [hv, hc 3 (by omega)]; rfl
end Bw
end Go.Proofs.YthdhhmflfdbkhaaGreatDoor

/- The one cell of the table of math/bits that is read, off the row's own condition. -/
namespace Go.Proofs.YthdhhmflfdbkhaaGreatDoor
open Go.ChangeShapes Go.WideShapes Go.ChangeAt Go.RowKit
namespace Bw
def bruijnZ : List Int := [0, 1, 56, 2, 57, 49, 28, 3, 61, 58, 42, 50, 38, 29, 17, 4, 62, 47, 59, 36, 45, 43, 51, 22, 53, 39, 33, 30, 24, 18, 12, 5, 63, 55, 48, 27, 60, 41, 37, 16, 46, 35, 44, 21, 52, 32, 23, 11, 54, 26, 40, 15, 34, 20, 31, 10, 25, 14, 19, 9, 13, 8, 7, 6]
theorem bruijn_eq : Rows.laid_math_bits_deBruijn64tab (H := Unit) = Lib.tabData .u8 bruijnZ := by kernel_rfl
theorem bruijn_t : Tryz.prog.underlying 171 = some (.array 64 5) := by kernel_rfl
theorem bruijn_c : Tryz.prog.cellsOf 171 = 64 := by kernel_rfl
theorem bruijn_c1 : Tryz.prog.cellsOf 5 = 1 := by kernel_rfl
theorem bruijn_g : Tryz.prog.globalNamed "math/bits.deBruijn64tab" = some 5 := by kernel_rfl
theorem bruijn_y : (Tryz.prog.globals[5]?).map (·.type) = some 171 := by kernel_rfl
theorem bruijn_of {W : World} {laid : List (String × DataW Unit)} (hL : laidMet Tryz.prog laid W)
    (h1 : ("math/bits.deBruijn64tab", Rows.laid_math_bits_deBruijn64tab) ∈ laid) : W.cell? ⟨5, 1, none⟩ = some (.int .u8 1) := by
  obtain ⟨g, t, cs, fuel, p, hg, hty, hvar, hd⟩ := Lib.laidMet.reads hL h1
  obtain rfl := Option.some.inj (bruijn_g.symm.trans hg)
  obtain rfl := Option.some.inj (bruijn_y.symm.trans hty)
  rw [bruijn_eq] at hd
  have hcs := Lib.cells_of_tab bruijn_t Tryz.underlying5 bruijn_c1 bruijn_c hd
  have := World.var?_cell hg hvar 1
  rw [this, ← Array.getElem?_toList, hcs]
  rfl
end Bw
end Go.Proofs.YthdhhmflfdbkhaaGreatDoor

/- The law FrameRead: any row is read as the frame that the document says, errors too. -/
namespace Go.Proofs.YthdhhmflfdbkhaaGreatDoor
open Go.ChangeShapes Go.WideShapes Go.ChangeAt Go.RowKit
namespace Bw
open Bm Cm
theorem nilBytes (w : World) : IsBytes w none 0 0 [] := ⟨rfl, Nat.le_refl _, Nat.zero_le _, fun _ => rfl, fun x hx => by cases hx⟩
set_option maxHeartbeats 4000000 in
theorem noFrame_zero (w : World) :
    Calls Tryz.prog 9 #[.agg #[.int .i64 0, .bool false, .bool false, .bool false, .int .i64 0, .slice none 0 0]] w fun e w' => e = .returned (.bool true) ∧ Below w.heap.size w w' := by
  have a1 := fun W => sameFrame_true ⟨0, false, false, false, 0, []⟩ none none 0 0 0 0 W (nilBytes W) (nilBytes W)
  unfold frameV at a1
  simp only at a1
  have HA1 := Hid.mk a1
  clear a1
  go_enter Tryz.func9, Tryz.ntmps9
  go_wp2_with fail
  refine (HA1.out _).mono ?_
  rintro e w1 ⟨rfl, hb1⟩
  go_wp2_with fail
  go_ret
  exact ⟨rfl, bl2 (below_box w 0 false false false 0 none 0 0) hb1⟩
theorem rdU (b : List UInt8) (hb : rowB b = true) (h : (rdD b).S.fl = 0) : 0 < (rdD b).S.u ∧ (rdD b).S.u ≤ b.length := by
  have iA := name_inv hb (Inv.start b) Mst.start
  have iB := form_inv hb iA.1 iA.2.1 (rdA b).lo (rdA b).re
  have iD := data_inv hb iB.1 iB.2.1 (rdB b).2 (rdA b).re
  have h1 : Inv b (rdD b).S (0 + 33 + 4 + 516) := iD.1
  have h2 : Mst (rdD b).S := iD.2.1
  have h3 : Fed (rdD b).S := iD.2.2
  have := h3 h
  unfold Mst at h2
  have a1 := h1.ou
  have a3 := h1.u
  exact ⟨by omega, a3⟩
set_option maxHeartbeats 8000000 in
set_option maxRecDepth 100000 in
theorem frameRead_bad (b : ByteArray) (w : World) (hS : SizesAt w) (hR : RulesAt w) (hs : b.size ≤ maxLen) (hc : checkE b.data.toList ≠ 0) :
    Calls Tryz.prog 3 #[.string b] w fun e w' => e = .returned (.bool true) ∧ Below w.heap.size w w' := by
  have HA1 := Hid.mk (read_bad b w hs hc)
  have HA2 := Hid.mk (fun W => checkRow_any b W hs)
  have HA3 := Hid.mk (fun W h1 h2 => framed_any W h1 h2)
  have HA4 := Hid.mk (fun W => noFrame_zero W)
  have hne : (checkE b.data.toList != 0) = true := by simpa using hc
  unfold frameV at HA1
  generalize checkE b.data.toList = ce at *
  have HS := Hid.mk hS
  have HR := Hid.mk hR
  clear hS hR hs hc
  go_enter Tryz.func3, Tryz.ntmps3
  go_wp2_with fail
  refine HA1.out.mono ?_
  rintro e w1 ⟨rfl, hb1⟩
  have hb2 : Below w1.heap.size w1 (w1.alloc (.cells #[.int .i64 0, .bool false, .bool false, .bool false, .int .i64 0, .slice none 0 0] 24)) := (Below.refl _ _).alloc (Nat.le_refl _) _
  have HK2 := Hid.mk (FrAt.box w1 0 false false false 0 none 0 0)
  unfold frameC at HK2
  have HB2 := Hid.mk (bl2 hb1 hb2)
  clear hb1 hb2 HA1
  go_wp2_with fail
  refine (HA2.out _).mono ?_
  rintro e w3 ⟨rfl, rfl⟩
  go_wp2_with fail
  refine (HA3.out _ (HS.out.kept HB2.out) (HR.out.kept HB2.out)).mono ?_
  rintro e w4 ⟨rfl, hb4⟩
  have HB4 := Hid.mk (bl2 HB2.out hb4)
  have HK4 := Hid.mk (HK2.out.kept hb4)
  clear hb4 HB2 HK2
  go_wp2_with fail
  refine (HA3.out _ (HS.out.kept HB4.out) (HR.out.kept HB4.out)).mono ?_
  rintro e w5 ⟨rfl, hb5⟩
  have HB5 := Hid.mk (bl2 HB4.out hb5)
  obtain ⟨k0, k1, k2, k3, k4, k5⟩ := HK4.out.kept hb5
  clear hb5 HB4 HK4
  go_wp2_with fail
  refine (HA4.out _).mono ?_
  rintro e w6 ⟨rfl, hb6⟩
  have HB6 := Hid.mk (bl2 HB5.out hb6)
  clear hb6 HB5 k0 k1 k2 k3 k4 k5
  go_wp2_with fail
  go_ret
  exact ⟨rfl, HB6.out⟩
set_option maxHeartbeats 8000000 in
set_option maxRecDepth 100000 in
theorem frameRead_no (b : ByteArray) (w : World) (hS : SizesAt w) (hR : RulesAt w) (hD : w.cell? ⟨5, 1, none⟩ = some (.int .u8 1)) (hc : checkE b.data.toList = 0) (hE : (rdE b.data.toList).fl ≠ 0) :
    Calls Tryz.prog 3 #[.string b] w fun e w' => e = .returned (.bool true) ∧ Below w.heap.size w w' := by
  obtain ⟨h1000, hrow⟩ := small_of_check hc
  have hU := rdU b.data.toList hrow
  obtain ⟨hsf, hsu⟩ := read_same b.data.toList hrow hU
  have a1 := read_ok b w hS hR hc
  have a2 := fun W => checkRow_any b W (by unfold maxLen; omega)
  rw [hc] at a2
  have a4 := fun W hW => readBits_any b W hW h1000 hrow
  have a1' : Calls Tryz.prog 6 #[.string b] w fun e w' => e = .returned (.tuple #[frameV 0 false false false 0 none 0 0, .int .i64 0, .int .i64 (rdE b.data.toList).fl]) ∧ Below w.heap.size w w' := a1.mono (fun _ _ h => ⟨h.1 hE, h.2.2⟩)
  have a4' : ∀ W, W.cell? ⟨5, 1, none⟩ = some (.int .u8 1) → Calls Tryz.prog 10 #[.string b] W fun e w' => e = .returned (.tuple #[frameV 0 false false false 0 none 0 0, .int .i64 0, .int .i64 (rdE b.data.toList).fl]) ∧ Below W.heap.size W w' := fun W hW => (a4 W hW).mono (fun _ _ h => by
    rw [hsf] at hE ⊢
    exact ⟨h.1 hE, h.2.2⟩)
  have a5 := fun W => sameFrame_true ⟨0, false, false, false, 0, []⟩ none none 0 0 0 0 W (nilBytes W) (nilBytes W)
  simp only at a5
  generalize (rdE b.data.toList).fl = ce at *
  have HA1 := Hid.mk a1'
  have HA2 := Hid.mk a2
  have HA3 := Hid.mk (fun W h1 h2 => framed_any W h1 h2)
  have HA4 := Hid.mk a4'
  have HA5 := Hid.mk a5
  unfold frameV at HA1 HA4 HA5
  have HS := Hid.mk hS
  have HR := Hid.mk hR
  have HD := Hid.mk hD
  clear hS hR hc hD hU hsf hsu a1 a2 a4 a1' a4' a5 h1000 hrow hE
  go_enter Tryz.func3, Tryz.ntmps3
  go_wp2_with fail
  refine HA1.out.mono ?_
  rintro e w1 ⟨rfl, hb1⟩
  have hb2 : Below w1.heap.size w1 (w1.alloc (.cells #[.int .i64 0, .bool false, .bool false, .bool false, .int .i64 0, .slice none 0 0] 24)) := (Below.refl _ _).alloc (Nat.le_refl _) _
  have HK2 := Hid.mk (FrAt.box w1 0 false false false 0 none 0 0)
  unfold frameC at HK2
  have HB2 := Hid.mk (bl2 hb1 hb2)
  clear hb1 hb2 HA1
  go_wp2_with fail
  refine (HA2.out _).mono ?_
  rintro e w3 ⟨rfl, rfl⟩
  go_wp2_with fail
  refine (HA3.out _ (HS.out.kept HB2.out) (HR.out.kept HB2.out)).mono ?_
  rintro e w4 ⟨rfl, hb4⟩
  have HB4 := Hid.mk (bl2 HB2.out hb4)
  have HK4 := Hid.mk (HK2.out.kept hb4)
  clear hb4 HB2 HK2
  go_wp2_with fail
  refine (HA4.out _ (cell_kept HB4.out HD.out)).mono ?_
  rintro e w5 ⟨rfl, hb5⟩
  have hb6 : Below w5.heap.size w5 (w5.alloc (.cells #[.int .i64 0, .bool false, .bool false, .bool false, .int .i64 0, .slice none 0 0] 24)) := (Below.refl _ _).alloc (Nat.le_refl _) _
  have hb56 := bl2 hb5 hb6
  obtain ⟨j0, j1, j2, j3, j4, j5⟩ := HK4.out.kept hb56
  have HB6 := Hid.mk (bl2 HB4.out hb56)
  clear hb5 hb6 hb56 HB4 HK4
  go_wp2_with fail
  refine (HA5.out _).mono ?_
  rintro e w7 ⟨rfl, hb7⟩
  have HB7 := Hid.mk (bl2 HB6.out hb7)
  clear hb7 HB6 j0 j1 j2 j3 j4 j5
  go_wp2_with fail
  go_ret
  exact ⟨rfl, HB7.out⟩
set_option maxHeartbeats 8000000 in
set_option maxRecDepth 100000 in
theorem frameRead_ok (b : ByteArray) (w : World) (hS : SizesAt w) (hR : RulesAt w) (hD : w.cell? ⟨5, 1, none⟩ = some (.int .u8 1)) (hc : checkE b.data.toList = 0) (hE : (rdE b.data.toList).fl = 0) :
    Calls Tryz.prog 3 #[.string b] w fun e w' => e = .returned (.bool true) ∧ Below w.heap.size w w' := by
  obtain ⟨h1000, hrow⟩ := small_of_check hc
  have hU := rdU b.data.toList hrow
  obtain ⟨hsf, hsu⟩ := read_same b.data.toList hrow hU
  have a1 := read_ok b w hS hR hc
  have a2 := fun W => checkRow_any b W (by unfold maxLen; omega)
  rw [hc] at a2
  have a4 := fun W hW => readBits_any b W hW h1000 hrow
  obtain ⟨hu, hF⟩ := hsu hE
  have a1' : Calls Tryz.prog 6 #[.string b] w fun e w' => ∃ a len cap, e = .returned (.tuple #[frameV (rdF b.data.toList).id (rdF b.data.toList).lo (rdF b.data.toList).fa (rdF b.data.toList).re (rdF b.data.toList).sz a len cap, .int .i64 (rdE b.data.toList).u, .int .i64 0]) ∧ IsBytes w' a len cap (rdF b.data.toList).dt ∧ Below w.heap.size w w' := a1.mono (fun _ _ h => by
    obtain ⟨a, len, cap, h1, h2⟩ := h.2.1 hE
    exact ⟨a, len, cap, h1, h2, h.2.2⟩)
  have a4' : ∀ W, W.cell? ⟨5, 1, none⟩ = some (.int .u8 1) → Calls Tryz.prog 10 #[.string b] W fun e w' => ∃ a len cap, e = .returned (.tuple #[frameV (rdF b.data.toList).id (rdF b.data.toList).lo (rdF b.data.toList).fa (rdF b.data.toList).re (rdF b.data.toList).sz a len cap, .int .i64 (rdE b.data.toList).u, .int .i64 0]) ∧ IsBytes w' a len cap (rdF b.data.toList).dt ∧ Below W.heap.size W w' := fun W hW => (a4 W hW).mono (fun _ _ h => by
    obtain ⟨a, len, cap, h1, h2⟩ := h.2.1 (by rw [← hsf]; exact hE)
    refine ⟨a, len, cap, ?_, ?_, h.2.2⟩
    · rw [hF, hu]; exact h1
    · rw [hF]; exact h2)
  have a5 := fun a1 n1 c1 a2 n2 c2 W h1 h2 => sameFrame_true (rdF b.data.toList) a1 a2 n1 c1 n2 c2 W h1 h2
  generalize rdF b.data.toList = F at *
  generalize ((rdE b.data.toList).u : Int) = cu at *
  obtain ⟨Fid, Flo, Ffa, Fre, Fsz, Fdt⟩ := F
  simp only at a1' a4' a5
  have HA1 := Hid.mk a1'
  have HA2 := Hid.mk a2
  have HA3 := Hid.mk (fun W h1 h2 => framed_any W h1 h2)
  have HA4 := Hid.mk a4'
  have HA5 := Hid.mk a5
  unfold frameV at HA1 HA4 HA5
  have HS := Hid.mk hS
  have HR := Hid.mk hR
  have HD := Hid.mk hD
  clear hS hR hc hD hU hsf hsu a1 a2 a4 a1' a4' a5 h1000 hrow hE
  clear hu hF
  go_enter Tryz.func3, Tryz.ntmps3
  go_wp2_with fail
  refine HA1.out.mono ?_
  rintro e w1 ⟨fa, fl, fc, rfl, hy1, hb1⟩
  have hb2 : Below w1.heap.size w1 (w1.alloc (.cells #[.int .i64 Fid, .bool Flo, .bool Ffa, .bool Fre, .int .i64 Fsz, .slice fa fl fc] 24)) := (Below.refl _ _).alloc (Nat.le_refl _) _
  have HK2 := Hid.mk (FrAt.box w1 Fid Flo Ffa Fre Fsz fa fl fc)
  unfold frameC at HK2
  have HB2 := Hid.mk (bl2 hb1 hb2)
  have HY2 := Hid.mk (isBytes_below hy1 hb2)
  clear hy1
  clear hb1 hb2 HA1
  go_wp2_with fail
  refine (HA2.out _).mono ?_
  rintro e w3 ⟨rfl, rfl⟩
  go_wp2_with fail
  refine (HA3.out _ (HS.out.kept HB2.out) (HR.out.kept HB2.out)).mono ?_
  rintro e w4 ⟨rfl, hb4⟩
  have HB4 := Hid.mk (bl2 HB2.out hb4)
  have HK4 := Hid.mk (HK2.out.kept hb4)
  have HY4 := Hid.mk (isBytes_below HY2.out hb4)
  clear HY2
  clear hb4 HB2 HK2
  go_wp2_with fail
  refine (HA4.out _ (cell_kept HB4.out HD.out)).mono ?_
  rintro e w5 ⟨ga, gl, gc, rfl, hy5, hb5⟩
  have hb6 : Below w5.heap.size w5 (w5.alloc (.cells #[.int .i64 Fid, .bool Flo, .bool Ffa, .bool Fre, .int .i64 Fsz, .slice ga gl gc] 24)) := (Below.refl _ _).alloc (Nat.le_refl _) _
  have hb56 := bl2 hb5 hb6
  obtain ⟨j0, j1, j2, j3, j4, j5⟩ := HK4.out.kept hb56
  have HB6 := Hid.mk (bl2 HB4.out hb56)
  have HY6 := Hid.mk (isBytes_below HY4.out hb56)
  have HZ6 := Hid.mk (isBytes_below hy5 hb6)
  clear HY4 hy5
  clear hb5 hb6 hb56 HB4 HK4
  go_wp2_with fail
  refine (HA5.out _ _ _ _ _ _ _ HY6.out HZ6.out).mono ?_
  rintro e w7 ⟨rfl, hb7⟩
  have HB7 := Hid.mk (bl2 HB6.out hb7)
  clear hb7 HB6 j0 j1 j2 j3 j4 j5
  go_wp2_with fail
  go_ret
  exact ⟨rfl, HB7.out⟩
end Bw
namespace frameRead
open Bw Bm
theorem walk (b : ByteArray) (w : World) (hs : b.size ≤ maxLen) (hL : laidMet Tryz.prog Rows.frameReadRow.laid w) :
    Calls Tryz.prog 3 #[.string b] w fun e w' => e = .returned (.bool true) ∧ Below w.heap.size w w' := by
  have hS := sizes_of hL (by simp [Rows.frameReadRow])
  have hR := rules_of hL (by simp [Rows.frameReadRow])
  have hD := bruijn_of hL (by simp [Rows.frameReadRow])
  by_cases hc : checkE b.data.toList = 0
  · by_cases hE : (rdE b.data.toList).fl = 0
    · exact frameRead_ok b w hS hR hD hc hE
    · exact frameRead_no b w hS hR hD hc hE
  · exact frameRead_bad b w hS hR hs hc
end frameRead
end Go.Proofs.YthdhhmflfdbkhaaGreatDoor
