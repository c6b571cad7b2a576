/- Joined out of our texts: RulesRow, BruijnRow, FbitsWalk. -/
import Derived.Test.YtjeogdfejnoanacGreatDoorRows
import Derived.Test.YtjeogdfejnoanacGreatDoorLawFrameBitsPE
import Derived.Lib.LaidU8
import Derived.Test.YtjeogdfejnoanacGreatDoorIsRow
import Derived.Test.YtjeogdfejnoanacGreatDoorLawFrameBitsPI
import Derived.Test.YtjeogdfejnoanacGreatDoorRefFrame
import Derived.Test.YtjeogdfejnoanacGreatDoorLawFrameBitsRN
import Derived.Test.YtjeogdfejnoanacGreatDoorLawFrameBitsPJ
/- The table of kinds off the row's own condition: its cells hold the sizes, polynomials, starts and ends. -/
namespace Go.Proofs.YtjeogdfejnoanacGreatDoor
open Go.ChangeShapes Go.WideShapes Go.ChangeAt Go.RowKit
namespace Bw
open Cm
def ruleZ (k : Nat) : List Int := [(kS k : Int), (kP k : Int), (kF k : Int), (kE k : Int)]
def rulesD : List (DataW Unit) := [0, 1, 2, 3, 4].map fun k => .agg ((ruleZ k).map fun z => .lit (.int .i64 z))
theorem five_at (k : Nat) (hk : k ≤ 4) : [0, 1, 2, 3, 4][k]? = some k := by
  match k, hk with
  | 0, _ => rfl
  | 1, _ => rfl
  | 2, _ => rfl
  | 3, _ => rfl
  | 4, _ => rfl
theorem rulesD_at (k : Nat) (hk : k ≤ 4) : rulesD[k]? = some (.agg ((ruleZ k).map fun z => .lit (.int .i64 z))) := by
  rw [rulesD, List.getElem?_map, five_at k hk]; rfl
theorem rules_eq : Rows.laid_omnibus_check_rules (H := Unit) = .agg rulesD := by kernel_rfl
theorem rules_t : Tryz.prog.underlying 73 = some (.array 5 72) := by kernel_rfl
theorem rule_c : Tryz.prog.cellsOf 72 = 4 := by kernel_rfl
theorem int_c : Tryz.prog.cellsOf 3 = 1 := by kernel_rfl
theorem rules_g : Tryz.prog.globalNamed "omnibus/check.rules" = some 0 := by kernel_rfl
theorem rules_y : (Tryz.prog.globals[0]?).map (·.type) = some 73 := by kernel_rfl
theorem rules_of {W : World} {laid : List (String × DataW Unit)} (hL : laidMet Tryz.prog laid W)
    (h1 : ("omnibus/check.rules", Rows.laid_omnibus_check_rules) ∈ laid) : RulesAt W := by
  obtain ⟨g, t, cs, fuel, p, hg, hty, hvar, hd⟩ := Lib.laidMet.reads hL h1
  obtain rfl := Option.some.inj (rules_g.symm.trans hg)
  obtain rfl := Option.some.inj (rules_y.symm.trans hty)
  rw [rules_eq] at hd
  intro k hk
  obtain ⟨fuel', d, q, hdk, htr⟩ := Lib.array_elem rules_t hd k (by omega)
  have hdd : d = .agg ((ruleZ k).map fun z => .lit (.int .i64 z)) := by
    have := rulesD_at k hk
    rw [hdk] at this
    exact Option.some.inj this
  subst hdd
  have hz := Lib.ints_of_struct Tryz.underlying72 (by
    intro i f h
    match i, h with
    | 0, h => cases h; exact ⟨Tryz.underlying3, rfl, int_c⟩
    | 1, h => cases h; exact ⟨Tryz.underlying3, rfl, int_c⟩
    | 2, h => cases h; exact ⟨Tryz.underlying3, rfl, int_c⟩
    | 3, h => cases h; exact ⟨Tryz.underlying3, rfl, int_c⟩
    | i + 4, h => simp at h) rule_c htr
  rw [rule_c] at hz
  have hc : ∀ j, j < 4 → cs[k * 4 + j]? = ((ruleZ k).map fun z => Value.int .i64 z)[j]? := by
    intro j hj
    rw [← hz, List.getElem?_take_of_lt hj, List.getElem?_drop, Array.getElem?_toList]
  have hv := fun j => World.var?_cell hg hvar j
  refine ⟨?_, ?_, ?_, ?_⟩
  · rw [hv, ← Nat.add_zero (k * 4), hc 0 (by omega)]; rfl
  · rw [hv, hc 1 (by omega)]; rfl
  · rw [hv, hc 2 (by omega)]; rfl
  · rw [hv, hc 3 (by omega)]; rfl
end Bw
end Go.Proofs.YtjeogdfejnoanacGreatDoor

/- The one cell of the table of math/bits that is read, off the row's own condition. -/
namespace Go.Proofs.YtjeogdfejnoanacGreatDoor
open Go.ChangeShapes Go.WideShapes Go.ChangeAt Go.RowKit
namespace Bw
def bruijnZ : List Int := [0, 1, 56, 2, 57, 49, 28, 3, 61, 58, 42, 50, 38, 29, 17, 4, 62, 47, 59, 36, 45, 43, 51, 22, 53, 39, 33, 30, 24, 18, 12, 5, 63, 55, 48, 27, 60, 41, 37, 16, 46, 35, 44, 21, 52, 32, 23, 11, 54, 26, 40, 15, 34, 20, 31, 10, 25, 14, 19, 9, 13, 8, 7, 6]
theorem bruijn_eq : Rows.laid_math_bits_deBruijn64tab (H := Unit) = Lib.tabData .u8 bruijnZ := by kernel_rfl
theorem bruijn_t : Tryz.prog.underlying 156 = some (.array 64 5) := by kernel_rfl
theorem bruijn_c : Tryz.prog.cellsOf 156 = 64 := by kernel_rfl
theorem bruijn_c1 : Tryz.prog.cellsOf 5 = 1 := by kernel_rfl
theorem bruijn_g : Tryz.prog.globalNamed "math/bits.deBruijn64tab" = some 5 := by kernel_rfl
theorem bruijn_y : (Tryz.prog.globals[5]?).map (·.type) = some 156 := by kernel_rfl
theorem bruijn_of {W : World} {laid : List (String × DataW Unit)} (hL : laidMet Tryz.prog laid W)
    (h1 : ("math/bits.deBruijn64tab", Rows.laid_math_bits_deBruijn64tab) ∈ laid) : W.cell? ⟨5, 1, none⟩ = some (.int .u8 1) := by
  obtain ⟨g, t, cs, fuel, p, hg, hty, hvar, hd⟩ := Lib.laidMet.reads hL h1
  obtain rfl := Option.some.inj (bruijn_g.symm.trans hg)
  obtain rfl := Option.some.inj (bruijn_y.symm.trans hty)
  rw [bruijn_eq] at hd
  have hcs := Lib.cells_of_tab bruijn_t Tryz.underlying5 bruijn_c1 bruijn_c hd
  have := World.var?_cell hg hvar 1
  rw [this, ← Array.getElem?_toList, hcs]
  rfl
end Bw
end Go.Proofs.YtjeogdfejnoanacGreatDoor

/- The law FrameBits: any frame has the name and the bits that the document says, errors too. -/
namespace Go.Proofs.YtjeogdfejnoanacGreatDoor
open Go.ChangeShapes Go.WideShapes Go.ChangeAt Go.RowKit
namespace Bw
open Bm Cm

theorem str_same {A B : ByteArray} {x : List UInt8} (hA : A.data.toList = x) (hB : B.data.toList = x) : (A.toList == B.toList) = true := by
  rw [ByteArray.toList_eq, ByteArray.toList_eq, hA, hB]; simp
set_option maxHeartbeats 16000000 in
theorem frameBits_bad (f : Fr) (a : Option Addr) (len cap : Nat) (w : World) (hS : SizesAt w) (hR : RulesAt w) (hby : IsBytes w a len cap f.dt) (hlen : len ≤ 140737488351232) (hE : frE f ≠ 0) :
    Calls Tryz.prog 3 #[frameV f.id f.lo f.fa f.re f.sz a len cap] w fun e w' => e = .returned (.bool true) ∧ Below w.heap.size w w' := by
  have hmx : len ≤ maxLen := by unfold maxLen; omega
  have hdl : f.dt.length = len := hby.1
  have hB := below_box w f.id f.lo f.fa f.re f.sz a len cap
  have hK := FrAt.box w f.id f.lo f.fa f.re f.sz a len cap
  have hY := isBytes_below hby hB
  have a1 := own_any f a len cap _ hY hlen
  have a2 := fun (ao : Option Addr) (co : Nat) W h1 => frName_any f ao len co W h1 hmx hdl
  have a3 := fun (ao : Option Addr) (co : Nat) W h1 h2 h3 => frBits_any f ao len co W h1 h2 h3
  have a4 := fun W => checkFrame_any f.id f.lo f.fa f.re f.sz a len cap W (by omega)
  have a5 := fun W h1 h2 => framed_any W h1 h2
  have a6 := fun W h1 => frCheck_any f.id f.lo f.fa f.re f.sz a len cap W h1 hmx
  have hEn : frEn f.id f.lo f.fa f.re f.sz len = frE f := by unfold frE; rw [hdl]
  rw [hEn] at a4 a6
  have a7 := fun (ao : Option Addr) (co : Nat) W h1 h2 => sameFrame_true f ao a len co len cap W h1 h2
  have a8 := fun (ao : Option Addr) (co : Nat) W h1 h2 => same_any f f a ao len cap len co W h1 h2
  have hsm : decide (f = f) = true := by simp
  rw [hsm] at a8
  have hna : nameA f = .tuple #[.string ⟨#[]⟩, .int .i64 (frE f)] := by unfold nameA; rw [if_neg hE]
  have hba : bitsA f = .tuple #[.string ⟨#[]⟩, .int .i64 (frE f)] := by unfold bitsA; rw [if_neg hE]
  rw [hna] at a2
  rw [hba] at a3
  have hne : (frE f != 0) = true := by simpa using hE
  have HA1 := Hid.mk a1
  have HA2 := Hid.mk a2
  have HA3 := Hid.mk a3
  have HA4 := Hid.mk a4
  have HA5 := Hid.mk a5
  have HA6 := Hid.mk a6
  have HA7 := Hid.mk a7
  have HA8 := Hid.mk a8
  have HB := Hid.mk hB
  have HK := Hid.mk hK
  have HY := Hid.mk hY
  have HS := Hid.mk hS
  have HR := Hid.mk hR
  unfold frameC at HA1 HB HK HY
  unfold frameV at HA1 HA2 HA3 HA4 HA6 HA7 HA8 ⊢
  clear a1 a2 a3 a4 a5 a6 a7 a8 hB hK hY hS hR hby hmx hdl hEn hsm hlen
  clear hE hna hba
  generalize frE f = ce at *
  go_enter Tryz.func3, Tryz.ntmps3
  go_wp2_with fail
  refine HA1.out.mono ?_
  rintro e w1 ⟨ao, co, rfl, hbo, hb1⟩
  have hb2 : Below w1.heap.size w1 (w1.alloc (.cells #[.int .i64 f.id, .bool f.lo, .bool f.fa, .bool f.re, .int .i64 f.sz, .slice ao len co] 24)) := (Below.refl _ _).alloc (Nat.le_refl _) _
  have hb12 := bl2 hb1 hb2
  have HB2 := Hid.mk (bl2 HB.out hb12)
  have HKf2 := Hid.mk (HK.out.kept hb12)
  have HYf2 := Hid.mk (isBytes_below HY.out hb12)
  have HKo2 := Hid.mk (FrAt.box w1 f.id f.lo f.fa f.re f.sz ao len co)
  have HYo2 := Hid.mk (isBytes_below hbo hb2)
  unfold frameC at HKo2
  clear hb1 hb2 hb12 hbo HB HK HY HA1
  go_wp2_with fail
  refine (HA2.out _ _ _ (HS.out.kept HB2.out)).mono ?_
  rintro e w3 ⟨rfl, hb3⟩
  have HB3 := Hid.mk (bl2 HB2.out hb3)
  have HKf3 := Hid.mk (HKf2.out.kept hb3)
  have HYf3 := Hid.mk (isBytes_below HYf2.out hb3)
  have HKo3 := Hid.mk (HKo2.out.kept hb3)
  have HYo3 := Hid.mk (isBytes_below HYo2.out hb3)
  obtain ⟨k0, k1, k2, k3, k4, k5⟩ := HKo3.out
  clear hb3 HB2 HKf2 HYf2 HKo2 HYo2 HA2
  go_wp2_with fail
  refine (HA3.out _ _ _ (HS.out.kept HB3.out) (HR.out.kept HB3.out) HYo3.out).mono ?_
  rintro e w4 ⟨rfl, hb4⟩
  have HB4 := Hid.mk (bl2 HB3.out hb4)
  have HKf4 := Hid.mk (HKf3.out.kept hb4)
  have HYf4 := Hid.mk (isBytes_below HYf3.out hb4)
  have HKo4 := Hid.mk (HKo3.out.kept hb4)
  have HYo4 := Hid.mk (isBytes_below HYo3.out hb4)
  obtain ⟨j0, j1, j2, j3, j4, j5⟩ := HKf4.out
  clear hb4 HB3 HKf3 HYf3 HKo3 HYo3 HA3 k0 k1 k2 k3 k4 k5
  go_wp2_with fail
  refine (HA4.out _).mono ?_
  rintro e w5 ⟨rfl, hb5⟩
  have HB5 := Hid.mk (bl2 HB4.out hb5)
  have HKf5 := Hid.mk (HKf4.out.kept hb5)
  have HYf5 := Hid.mk (isBytes_below HYf4.out hb5)
  have HKo5 := Hid.mk (HKo4.out.kept hb5)
  have HYo5 := Hid.mk (isBytes_below HYo4.out hb5)
  clear hb5 HB4 HKf4 HYf4 HKo4 HYo4 HA4 j0 j1 j2 j3 j4 j5
  go_wp2_with fail
  refine (HA5.out _ (HS.out.kept HB5.out) (HR.out.kept HB5.out)).mono ?_
  rintro e w6 ⟨rfl, hb6⟩
  have HB6 := Hid.mk (bl2 HB5.out hb6)
  have HKf6 := Hid.mk (HKf5.out.kept hb6)
  have HYf6 := Hid.mk (isBytes_below HYf5.out hb6)
  have HKo6 := Hid.mk (HKo5.out.kept hb6)
  have HYo6 := Hid.mk (isBytes_below HYo5.out hb6)
  obtain ⟨j0, j1, j2, j3, j4, j5⟩ := HKf6.out
  clear hb6 HB5 HKf5 HYf5 HKo5 HYo5 HA5
  go_wp2_with fail
  refine (HA6.out _ (HS.out.kept HB6.out)).mono ?_
  rintro e w7 ⟨rfl, hb7⟩
  have HB7 := Hid.mk (bl2 HB6.out hb7)
  have HKf7 := Hid.mk (HKf6.out.kept hb7)
  have HYf7 := Hid.mk (isBytes_below HYf6.out hb7)
  have HKo7 := Hid.mk (HKo6.out.kept hb7)
  have HYo7 := Hid.mk (isBytes_below HYo6.out hb7)
  clear hb7 HB6 HKf6 HYf6 HKo6 HYo6 HA6 j0 j1 j2 j3 j4 j5
  obtain ⟨j0, j1, j2, j3, j4, j5⟩ := HKf7.out
  obtain ⟨k0, k1, k2, k3, k4, k5⟩ := HKo7.out
  go_wp2_with fail
  refine (HA7.out _ _ _ HYo7.out HYf7.out).mono ?_
  rintro e w71 ⟨rfl, hb71⟩
  have HB71 := Hid.mk (bl2 HB7.out hb71)
  have HKf71 := Hid.mk (HKf7.out.kept hb71)
  have HYf71 := Hid.mk (isBytes_below HYf7.out hb71)
  have HKo71 := Hid.mk (HKo7.out.kept hb71)
  have HYo71 := Hid.mk (isBytes_below HYo7.out hb71)
  clear hb71 HB7 HKf7 HYf7 HKo7 HYo7 HA7 j0 j1 j2 j3 j4 j5 k0 k1 k2 k3 k4 k5
  obtain ⟨j0, j1, j2, j3, j4, j5⟩ := HKf71.out
  obtain ⟨k0, k1, k2, k3, k4, k5⟩ := HKo71.out
  go_wp2_with fail
  refine (HA8.out _ _ _ HYf71.out HYo71.out).mono ?_
  rintro e w8 ⟨rfl, hb8⟩
  have HB8 := Hid.mk (bl2 HB71.out hb8)
  have HKf8 := Hid.mk (HKf71.out.kept hb8)
  have HYf8 := Hid.mk (isBytes_below HYf71.out hb8)
  clear hb8 HB71 HKf71 HYf71 HKo71 HYo71 HA8 j0 j1 j2 j3 j4 j5 k0 k1 k2 k3 k4 k5
  go_wp2_with fail
  go_ret
  exact ⟨rfl, HB8.out⟩
set_option maxHeartbeats 16000000 in
theorem frameBits_ok (f : Fr) (a : Option Addr) (len cap : Nat) (w : World) (hS : SizesAt w) (hR : RulesAt w) (hD : w.cell? ⟨5, 1, none⟩ = some (.int .u8 1)) (hby : IsBytes w a len cap f.dt) (hlen : len ≤ 140737488351232) (hE : frE f = 0) :
    Calls Tryz.prog 3 #[frameV f.id f.lo f.fa f.re f.sz a len cap] w fun e w' => e = .returned (.bool true) ∧ Below w.heap.size w w' := by
  have hmx : len ≤ maxLen := by unfold maxLen; omega
  have hdl : f.dt.length = len := hby.1
  have hB := below_box w f.id f.lo f.fa f.re f.sz a len cap
  have hK := FrAt.box w f.id f.lo f.fa f.re f.sz a len cap
  have hY := isBytes_below hby hB
  have a1 := own_any f a len cap _ hY hlen
  have a2 := fun (ao : Option Addr) (co : Nat) W h1 => frName_any f ao len co W h1 hmx hdl
  have a3 := fun (ao : Option Addr) (co : Nat) W h1 h2 h3 => frBits_any f ao len co W h1 h2 h3
  have a4 := fun W => checkFrame_any f.id f.lo f.fa f.re f.sz a len cap W (by omega)
  have a5 := fun W h1 h2 => framed_any W h1 h2
  have a6 := fun W h1 => frCheck_any f.id f.lo f.fa f.re f.sz a len cap W h1 hmx
  have hEn : frEn f.id f.lo f.fa f.re f.sz len = frE f := by unfold frE; rw [hdl]
  rw [hEn] at a4 a6
  have a7 := fun (ao : Option Addr) (co : Nat) W h1 h2 => sameFrame_true f ao a len co len cap W h1 h2
  have a8 := fun (ao : Option Addr) (co : Nat) W h1 h2 => same_any f f a ao len cap len co W h1 h2
  have hsm : decide (f = f) = true := by simp
  rw [hsm] at a8
  have hna : nameA f = .tuple #[.string ⟨(nameL f).toArray⟩, .int .i64 0] := by unfold nameA; rw [if_pos hE]
  have hba : bitsA f = .tuple #[.string ⟨(bitsL f).toArray⟩, .int .i64 0] := by unfold bitsA; rw [if_pos hE]
  rw [hna] at a2
  rw [hba] at a3
  rw [hE] at a4 a6
  obtain ⟨q1, q2, -⟩ := frE_ok hE
  have a9 := fun W hW => nameOf_any f a len cap W hW q1 q2
  have a10 := fun W hW hB => bitsOf_any f a len cap W hW hE hB
  generalize ByteArray.mk (nameL f).toArray = NM at *
  generalize ByteArray.mk (bitsL f).toArray = BT at *
  have HA9 := Hid.mk a9
  have HA10 := Hid.mk a10
  have HD := Hid.mk hD
  unfold frameV at HA9 HA10
  have e1 : (NM.toList == NM.toList) = true := by simp
  have e2 : (BT.toList == BT.toList) = true := by simp
  have HA1 := Hid.mk a1
  have HA2 := Hid.mk a2
  have HA3 := Hid.mk a3
  have HA4 := Hid.mk a4
  have HA5 := Hid.mk a5
  have HA6 := Hid.mk a6
  have HA7 := Hid.mk a7
  have HA8 := Hid.mk a8
  have HB := Hid.mk hB
  have HK := Hid.mk hK
  have HY := Hid.mk hY
  have HS := Hid.mk hS
  have HR := Hid.mk hR
  unfold frameC at HA1 HB HK HY
  unfold frameV at HA1 HA2 HA3 HA4 HA6 HA7 HA8 ⊢
  clear a1 a2 a3 a4 a5 a6 a7 a8 hB hK hY hS hR hby hmx hdl hEn hsm hlen
  clear hE hna hba a9 a10 hD q1 q2
  go_enter Tryz.func3, Tryz.ntmps3
  go_wp2_with fail
  refine HA1.out.mono ?_
  rintro e w1 ⟨ao, co, rfl, hbo, hb1⟩
  have hb2 : Below w1.heap.size w1 (w1.alloc (.cells #[.int .i64 f.id, .bool f.lo, .bool f.fa, .bool f.re, .int .i64 f.sz, .slice ao len co] 24)) := (Below.refl _ _).alloc (Nat.le_refl _) _
  have hb12 := bl2 hb1 hb2
  have HB2 := Hid.mk (bl2 HB.out hb12)
  have HKf2 := Hid.mk (HK.out.kept hb12)
  have HYf2 := Hid.mk (isBytes_below HY.out hb12)
  have HKo2 := Hid.mk (FrAt.box w1 f.id f.lo f.fa f.re f.sz ao len co)
  have HYo2 := Hid.mk (isBytes_below hbo hb2)
  unfold frameC at HKo2
  clear hb1 hb2 hb12 hbo HB HK HY HA1
  go_wp2_with fail
  refine (HA2.out _ _ _ (HS.out.kept HB2.out)).mono ?_
  rintro e w3 ⟨rfl, hb3⟩
  have HB3 := Hid.mk (bl2 HB2.out hb3)
  have HKf3 := Hid.mk (HKf2.out.kept hb3)
  have HYf3 := Hid.mk (isBytes_below HYf2.out hb3)
  have HKo3 := Hid.mk (HKo2.out.kept hb3)
  have HYo3 := Hid.mk (isBytes_below HYo2.out hb3)
  obtain ⟨k0, k1, k2, k3, k4, k5⟩ := HKo3.out
  clear hb3 HB2 HKf2 HYf2 HKo2 HYo2 HA2
  go_wp2_with fail
  refine (HA3.out _ _ _ (HS.out.kept HB3.out) (HR.out.kept HB3.out) HYo3.out).mono ?_
  rintro e w4 ⟨rfl, hb4⟩
  have HB4 := Hid.mk (bl2 HB3.out hb4)
  have HKf4 := Hid.mk (HKf3.out.kept hb4)
  have HYf4 := Hid.mk (isBytes_below HYf3.out hb4)
  have HKo4 := Hid.mk (HKo3.out.kept hb4)
  have HYo4 := Hid.mk (isBytes_below HYo3.out hb4)
  obtain ⟨j0, j1, j2, j3, j4, j5⟩ := HKf4.out
  clear hb4 HB3 HKf3 HYf3 HKo3 HYo3 HA3 k0 k1 k2 k3 k4 k5
  go_wp2_with fail
  refine (HA4.out _).mono ?_
  rintro e w5 ⟨rfl, hb5⟩
  have HB5 := Hid.mk (bl2 HB4.out hb5)
  have HKf5 := Hid.mk (HKf4.out.kept hb5)
  have HYf5 := Hid.mk (isBytes_below HYf4.out hb5)
  have HKo5 := Hid.mk (HKo4.out.kept hb5)
  have HYo5 := Hid.mk (isBytes_below HYo4.out hb5)
  clear hb5 HB4 HKf4 HYf4 HKo4 HYo4 HA4 j0 j1 j2 j3 j4 j5
  go_wp2_with fail
  refine (HA5.out _ (HS.out.kept HB5.out) (HR.out.kept HB5.out)).mono ?_
  rintro e w6 ⟨rfl, hb6⟩
  have HB6 := Hid.mk (bl2 HB5.out hb6)
  have HKf6 := Hid.mk (HKf5.out.kept hb6)
  have HYf6 := Hid.mk (isBytes_below HYf5.out hb6)
  have HKo6 := Hid.mk (HKo5.out.kept hb6)
  have HYo6 := Hid.mk (isBytes_below HYo5.out hb6)
  obtain ⟨j0, j1, j2, j3, j4, j5⟩ := HKf6.out
  clear hb6 HB5 HKf5 HYf5 HKo5 HYo5 HA5
  go_wp2_with fail
  refine (HA6.out _ (HS.out.kept HB6.out)).mono ?_
  rintro e w7 ⟨rfl, hb7⟩
  have HB7 := Hid.mk (bl2 HB6.out hb7)
  have HKf7 := Hid.mk (HKf6.out.kept hb7)
  have HYf7 := Hid.mk (isBytes_below HYf6.out hb7)
  have HKo7 := Hid.mk (HKo6.out.kept hb7)
  have HYo7 := Hid.mk (isBytes_below HYo6.out hb7)
  clear hb7 HB6 HKf6 HYf6 HKo6 HYo6 HA6 j0 j1 j2 j3 j4 j5
  obtain ⟨j0, j1, j2, j3, j4, j5⟩ := HKf7.out
  obtain ⟨k0, k1, k2, k3, k4, k5⟩ := HKo7.out
  go_wp2_with fail
  refine (HA7.out _ _ _ HYo7.out HYf7.out).mono ?_
  rintro e w71 ⟨rfl, hb71⟩
  have HB71 := Hid.mk (bl2 HB7.out hb71)
  have HKf71 := Hid.mk (HKf7.out.kept hb71)
  have HYf71 := Hid.mk (isBytes_below HYf7.out hb71)
  have HKo71 := Hid.mk (HKo7.out.kept hb71)
  have HYo71 := Hid.mk (isBytes_below HYo7.out hb71)
  clear hb71 HB7 HKf7 HYf7 HKo7 HYo7 HA7 j0 j1 j2 j3 j4 j5 k0 k1 k2 k3 k4 k5
  obtain ⟨j0, j1, j2, j3, j4, j5⟩ := HKf71.out
  obtain ⟨k0, k1, k2, k3, k4, k5⟩ := HKo71.out
  go_wp2_with fail
  refine (HA8.out _ _ _ HYf71.out HYo71.out).mono ?_
  rintro e w8 ⟨rfl, hb8⟩
  have HB8 := Hid.mk (bl2 HB71.out hb8)
  have HKf8 := Hid.mk (HKf71.out.kept hb8)
  have HYf8 := Hid.mk (isBytes_below HYf71.out hb8)
  clear hb8 HB71 HKf71 HYf71 HKo71 HYo71 HA8 j0 j1 j2 j3 j4 j5 k0 k1 k2 k3 k4 k5
  obtain ⟨n0, n1, n2, n3, n4, n5⟩ := HKf8.out
  go_wp2_with fail
  refine (HA9.out _ (cell_kept HB8.out HD.out)).mono ?_
  rintro e w9 ⟨rfl, hb9⟩
  have HB9 := Hid.mk (bl2 HB8.out hb9)
  obtain ⟨p0, p1, p2, p3, p4, p5⟩ := HKf8.out.kept hb9
  have HYf9 := Hid.mk (isBytes_below HYf8.out hb9)
  clear hb9 HB8 HKf8 HYf8 n0 n1 n2 n3 n4 n5 HA9
  go_wp2_with fail
  refine (HA10.out _ (cell_kept HB9.out HD.out) HYf9.out).mono ?_
  rintro e w10 ⟨rfl, hb10⟩
  have HB10 := Hid.mk (bl2 HB9.out hb10)
  clear hb10 HB9 HYf9 p0 p1 p2 p3 p4 p5 HA10
  go_wp2_with fail
  go_ret
  exact ⟨rfl, HB10.out⟩
end Bw
namespace frameBits
open Bw
theorem walk (id : Int) (lo fa re : Bool) (sz : Int) (a : Option Addr) (len cap : Nat) (zs : List Int) (w : World) (_ : (Lit.int .i64 id).wf = true) (_ : (Lit.int .i64 sz).wf = true) (hz : IsRow .u8 w a len cap zs) (hlen : len ≤ 140737488351232) (hL : laidMet Tryz.prog Rows.frameBitsRow.laid w) :
    Calls Tryz.prog 3 #[frameV id lo fa re sz a len cap] w fun e w' => e = .returned (.bool true) ∧ Below w.heap.size w w' := by
  have hS := sizes_of hL (by simp [Rows.frameBitsRow])
  have hR := rules_of hL (by simp [Rows.frameBitsRow])
  have hD := bruijn_of hL (by simp [Rows.frameBitsRow])
  obtain ⟨l, hl⟩ := isBytes_of_row hz
  by_cases hE : frE ⟨id, lo, fa, re, sz, l⟩ = 0
  · exact frameBits_ok ⟨id, lo, fa, re, sz, l⟩ a len cap w hS hR hD hl hlen hE
  · exact frameBits_bad ⟨id, lo, fa, re, sz, l⟩ a len cap w hS hR hl hlen hE
end frameBits
end Go.Proofs.YtjeogdfejnoanacGreatDoor
