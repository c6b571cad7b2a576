/- The law FrameRead: any row is read as the frame that the document says, errors too. -/
import Derived.Test.YtemohjamcdkcmaaGreatDoorFramed
import Derived.Test.YtemohjamcdkcmaaGreatDoorC21
import Derived.Test.YtemohjamcdkcmaaGreatDoorRD4
import Derived.Test.YtemohjamcdkcmaaGreatDoorC22
namespace Go.Proofs.YtemohjamcdkcmaaGreatDoor
open Go.ChangeShapes Go.WideShapes Go.ChangeAt Go.RowKit
namespace Bw
open Bm Cm
theorem nilBytes (w : World) : IsBytes w none 0 0 [] := ⟨rfl, Nat.le_refl _, Nat.zero_le _, fun _ => rfl, fun x hx => by cases hx⟩
set_option maxHeartbeats 4000000 in
theorem noFrame_zero (w : World) :
    Calls Tryz.prog 19 #[.agg #[.int .i64 0, .bool false, .bool false, .bool false, .int .i64 0, .slice none 0 0]] w fun e w' => e = .returned (.bool true) ∧ Below w.heap.size w w' := by
  have a1 := fun W => sameFrame_true ⟨0, false, false, false, 0, []⟩ none none 0 0 0 0 W (nilBytes W) (nilBytes W)
  unfold frameV at a1
  simp only at a1
  have HA1 := Hid.mk a1
  clear a1
  go_enter Tryz.func19, Tryz.ntmps19
  go_wp2_with fail
  refine (HA1.out _).mono ?_
  rintro e w1 ⟨rfl, hb1⟩
  go_wp2_with fail
  go_ret
  exact ⟨rfl, bl2 (below_box w 0 false false false 0 none 0 0) hb1⟩
theorem rdU (b : List UInt8) (hb : rowB b = true) (h : (rdD b).S.fl = 0) : 0 < (rdD b).S.u ∧ (rdD b).S.u ≤ b.length := by
  have iA := name_inv hb (Inv.start b) Mst.start
  have iB := form_inv hb iA.1 iA.2.1 (rdA b).lo (rdA b).re
  have iD := data_inv hb iB.1 iB.2.1 (rdB b).2 (rdA b).re
  have h1 : Inv b (rdD b).S (0 + 33 + 4 + 516) := iD.1
  have h2 : Mst (rdD b).S := iD.2.1
  have h3 : Fed (rdD b).S := iD.2.2
  have := h3 h
  unfold Mst at h2
  have a1 := h1.ou
  have a3 := h1.u
  exact ⟨by omega, a3⟩
set_option maxHeartbeats 8000000 in
set_option maxRecDepth 100000 in
theorem frameRead_bad (b : ByteArray) (w : World) (hS : SizesAt w) (hR : RulesAt w) (hs : b.size ≤ maxLen) (hc : checkE b.data.toList ≠ 0) :
    Calls Tryz.prog 4 #[.string b] w fun e w' => e = .returned (.bool true) ∧ Below w.heap.size w w' := by
  have HA1 := Hid.mk (read_bad b w hs hc)
  have HA2 := Hid.mk (fun W => checkRow_any b W hs)
  have HA3 := Hid.mk (fun W h1 h2 => framed_any W h1 h2)
  have HA4 := Hid.mk (fun W => noFrame_zero W)
  have hne : (checkE b.data.toList != 0) = true := by simpa using hc
  unfold frameV at HA1
  generalize checkE b.data.toList = ce at *
  have HS := Hid.mk hS
  have HR := Hid.mk hR
  clear hS hR hs hc
  go_enter Tryz.func4, Tryz.ntmps4
  go_wp2_with fail
  refine HA1.out.mono ?_
  rintro e w1 ⟨rfl, hb1⟩
  have hb2 : Below w1.heap.size w1 (w1.alloc (.cells #[.int .i64 0, .bool false, .bool false, .bool false, .int .i64 0, .slice none 0 0] 24)) := (Below.refl _ _).alloc (Nat.le_refl _) _
  have HK2 := Hid.mk (FrAt.box w1 0 false false false 0 none 0 0)
  unfold frameC at HK2
  have HB2 := Hid.mk (bl2 hb1 hb2)
  clear hb1 hb2 HA1
  go_wp2_with fail
  refine (HA2.out _).mono ?_
  rintro e w3 ⟨rfl, rfl⟩
  go_wp2_with fail
  refine (HA3.out _ (HS.out.kept HB2.out) (HR.out.kept HB2.out)).mono ?_
  rintro e w4 ⟨rfl, hb4⟩
  have HB4 := Hid.mk (bl2 HB2.out hb4)
  have HK4 := Hid.mk (HK2.out.kept hb4)
  clear hb4 HB2 HK2
  go_wp2_with fail
  refine (HA3.out _ (HS.out.kept HB4.out) (HR.out.kept HB4.out)).mono ?_
  rintro e w5 ⟨rfl, hb5⟩
  have HB5 := Hid.mk (bl2 HB4.out hb5)
  obtain ⟨k0, k1, k2, k3, k4, k5⟩ := HK4.out.kept hb5
  clear hb5 HB4 HK4
  go_wp2_with fail
  refine (HA4.out _).mono ?_
  rintro e w6 ⟨rfl, hb6⟩
  have HB6 := Hid.mk (bl2 HB5.out hb6)
  clear hb6 HB5 k0 k1 k2 k3 k4 k5
  go_wp2_with fail
  go_ret
  exact ⟨rfl, HB6.out⟩
set_option maxHeartbeats 8000000 in
set_option maxRecDepth 100000 in
theorem frameRead_no (b : ByteArray) (w : World) (hS : SizesAt w) (hR : RulesAt w) (hD : w.cell? ⟨5, 1, none⟩ = some (.int .u8 1)) (hc : checkE b.data.toList = 0) (hE : (rdE b.data.toList).fl ≠ 0) :
    Calls Tryz.prog 4 #[.string b] w fun e w' => e = .returned (.bool true) ∧ Below w.heap.size w w' := by
  obtain ⟨h1000, hrow⟩ := small_of_check hc
  have hU := rdU b.data.toList hrow
  obtain ⟨hsf, hsu⟩ := read_same b.data.toList hrow hU
  have a1 := read_ok b w hS hR hc
  have a2 := fun W => checkRow_any b W (by unfold maxLen; omega)
  rw [hc] at a2
  have a4 := fun W hW => readBits_any b W hW h1000 hrow
  have a1' : Calls Tryz.prog 17 #[.string b] w fun e w' => e = .returned (.tuple #[frameV 0 false false false 0 none 0 0, .int .i64 0, .int .i64 (rdE b.data.toList).fl]) ∧ Below w.heap.size w w' := a1.mono (fun _ _ h => ⟨h.1 hE, h.2.2⟩)
  have a4' : ∀ W, W.cell? ⟨5, 1, none⟩ = some (.int .u8 1) → Calls Tryz.prog 20 #[.string b] W fun e w' => e = .returned (.tuple #[frameV 0 false false false 0 none 0 0, .int .i64 0, .int .i64 (rdE b.data.toList).fl]) ∧ Below W.heap.size W w' := fun W hW => (a4 W hW).mono (fun _ _ h => by
    rw [hsf] at hE ⊢
    exact ⟨h.1 hE, h.2.2⟩)
  have a5 := fun W => sameFrame_true ⟨0, false, false, false, 0, []⟩ none none 0 0 0 0 W (nilBytes W) (nilBytes W)
  simp only at a5
  generalize (rdE b.data.toList).fl = ce at *
  have HA1 := Hid.mk a1'
  have HA2 := Hid.mk a2
  have HA3 := Hid.mk (fun W h1 h2 => framed_any W h1 h2)
  have HA4 := Hid.mk a4'
  have HA5 := Hid.mk a5
  unfold frameV at HA1 HA4 HA5
  have HS := Hid.mk hS
  have HR := Hid.mk hR
  have HD := Hid.mk hD
  clear hS hR hc hD hU hsf hsu a1 a2 a4 a1' a4' a5 h1000 hrow hE
  go_enter Tryz.func4, Tryz.ntmps4
  go_wp2_with fail
  refine HA1.out.mono ?_
  rintro e w1 ⟨rfl, hb1⟩
  have hb2 : Below w1.heap.size w1 (w1.alloc (.cells #[.int .i64 0, .bool false, .bool false, .bool false, .int .i64 0, .slice none 0 0] 24)) := (Below.refl _ _).alloc (Nat.le_refl _) _
  have HK2 := Hid.mk (FrAt.box w1 0 false false false 0 none 0 0)
  unfold frameC at HK2
  have HB2 := Hid.mk (bl2 hb1 hb2)
  clear hb1 hb2 HA1
  go_wp2_with fail
  refine (HA2.out _).mono ?_
  rintro e w3 ⟨rfl, rfl⟩
  go_wp2_with fail
  refine (HA3.out _ (HS.out.kept HB2.out) (HR.out.kept HB2.out)).mono ?_
  rintro e w4 ⟨rfl, hb4⟩
  have HB4 := Hid.mk (bl2 HB2.out hb4)
  have HK4 := Hid.mk (HK2.out.kept hb4)
  clear hb4 HB2 HK2
  go_wp2_with fail
  refine (HA4.out _ (cell_kept HB4.out HD.out)).mono ?_
  rintro e w5 ⟨rfl, hb5⟩
  have hb6 : Below w5.heap.size w5 (w5.alloc (.cells #[.int .i64 0, .bool false, .bool false, .bool false, .int .i64 0, .slice none 0 0] 24)) := (Below.refl _ _).alloc (Nat.le_refl _) _
  have hb56 := bl2 hb5 hb6
  obtain ⟨j0, j1, j2, j3, j4, j5⟩ := HK4.out.kept hb56
  have HB6 := Hid.mk (bl2 HB4.out hb56)
  clear hb5 hb6 hb56 HB4 HK4
  go_wp2_with fail
  refine (HA5.out _).mono ?_
  rintro e w7 ⟨rfl, hb7⟩
  have HB7 := Hid.mk (bl2 HB6.out hb7)
  clear hb7 HB6 j0 j1 j2 j3 j4 j5
  go_wp2_with fail
  go_ret
  exact ⟨rfl, HB7.out⟩
set_option maxHeartbeats 8000000 in
set_option maxRecDepth 100000 in
theorem frameRead_ok (b : ByteArray) (w : World) (hS : SizesAt w) (hR : RulesAt w) (hD : w.cell? ⟨5, 1, none⟩ = some (.int .u8 1)) (hc : checkE b.data.toList = 0) (hE : (rdE b.data.toList).fl = 0) :
    Calls Tryz.prog 4 #[.string b] w fun e w' => e = .returned (.bool true) ∧ Below w.heap.size w w' := by
  obtain ⟨h1000, hrow⟩ := small_of_check hc
  have hU := rdU b.data.toList hrow
  obtain ⟨hsf, hsu⟩ := read_same b.data.toList hrow hU
  have a1 := read_ok b w hS hR hc
  have a2 := fun W => checkRow_any b W (by unfold maxLen; omega)
  rw [hc] at a2
  have a4 := fun W hW => readBits_any b W hW h1000 hrow
  obtain ⟨hu, hF⟩ := hsu hE
  have a1' : Calls Tryz.prog 17 #[.string b] w fun e w' => ∃ a len cap, e = .returned (.tuple #[frameV (rdF b.data.toList).id (rdF b.data.toList).lo (rdF b.data.toList).fa (rdF b.data.toList).re (rdF b.data.toList).sz a len cap, .int .i64 (rdE b.data.toList).u, .int .i64 0]) ∧ IsBytes w' a len cap (rdF b.data.toList).dt ∧ Below w.heap.size w w' := a1.mono (fun _ _ h => by
    obtain ⟨a, len, cap, h1, h2⟩ := h.2.1 hE
    exact ⟨a, len, cap, h1, h2, h.2.2⟩)
  have a4' : ∀ W, W.cell? ⟨5, 1, none⟩ = some (.int .u8 1) → Calls Tryz.prog 20 #[.string b] W fun e w' => ∃ a len cap, e = .returned (.tuple #[frameV (rdF b.data.toList).id (rdF b.data.toList).lo (rdF b.data.toList).fa (rdF b.data.toList).re (rdF b.data.toList).sz a len cap, .int .i64 (rdE b.data.toList).u, .int .i64 0]) ∧ IsBytes w' a len cap (rdF b.data.toList).dt ∧ Below W.heap.size W w' := fun W hW => (a4 W hW).mono (fun _ _ h => by
    obtain ⟨a, len, cap, h1, h2⟩ := h.2.1 (by rw [← hsf]; exact hE)
    refine ⟨a, len, cap, ?_, ?_, h.2.2⟩
    · rw [hF, hu]; exact h1
    · rw [hF]; exact h2)
  have a5 := fun a1 n1 c1 a2 n2 c2 W h1 h2 => sameFrame_true (rdF b.data.toList) a1 a2 n1 c1 n2 c2 W h1 h2
  generalize rdF b.data.toList = F at *
  generalize ((rdE b.data.toList).u : Int) = cu at *
  obtain ⟨Fid, Flo, Ffa, Fre, Fsz, Fdt⟩ := F
  simp only at a1' a4' a5
  have HA1 := Hid.mk a1'
  have HA2 := Hid.mk a2
  have HA3 := Hid.mk (fun W h1 h2 => framed_any W h1 h2)
  have HA4 := Hid.mk a4'
  have HA5 := Hid.mk a5
  unfold frameV at HA1 HA4 HA5
  have HS := Hid.mk hS
  have HR := Hid.mk hR
  have HD := Hid.mk hD
  clear hS hR hc hD hU hsf hsu a1 a2 a4 a1' a4' a5 h1000 hrow hE
  clear hu hF
  go_enter Tryz.func4, Tryz.ntmps4
  go_wp2_with fail
  refine HA1.out.mono ?_
  rintro e w1 ⟨fa, fl, fc, rfl, hy1, hb1⟩
  have hb2 : Below w1.heap.size w1 (w1.alloc (.cells #[.int .i64 Fid, .bool Flo, .bool Ffa, .bool Fre, .int .i64 Fsz, .slice fa fl fc] 24)) := (Below.refl _ _).alloc (Nat.le_refl _) _
  have HK2 := Hid.mk (FrAt.box w1 Fid Flo Ffa Fre Fsz fa fl fc)
  unfold frameC at HK2
  have HB2 := Hid.mk (bl2 hb1 hb2)
  have HY2 := Hid.mk (isBytes_below hy1 hb2)
  clear hy1
  clear hb1 hb2 HA1
  go_wp2_with fail
  refine (HA2.out _).mono ?_
  rintro e w3 ⟨rfl, rfl⟩
  go_wp2_with fail
  refine (HA3.out _ (HS.out.kept HB2.out) (HR.out.kept HB2.out)).mono ?_
  rintro e w4 ⟨rfl, hb4⟩
  have HB4 := Hid.mk (bl2 HB2.out hb4)
  have HK4 := Hid.mk (HK2.out.kept hb4)
  have HY4 := Hid.mk (isBytes_below HY2.out hb4)
  clear HY2
  clear hb4 HB2 HK2
  go_wp2_with fail
  refine (HA4.out _ (cell_kept HB4.out HD.out)).mono ?_
  rintro e w5 ⟨ga, gl, gc, rfl, hy5, hb5⟩
  have hb6 : Below w5.heap.size w5 (w5.alloc (.cells #[.int .i64 Fid, .bool Flo, .bool Ffa, .bool Fre, .int .i64 Fsz, .slice ga gl gc] 24)) := (Below.refl _ _).alloc (Nat.le_refl _) _
  have hb56 := bl2 hb5 hb6
  obtain ⟨j0, j1, j2, j3, j4, j5⟩ := HK4.out.kept hb56
  have HB6 := Hid.mk (bl2 HB4.out hb56)
  have HY6 := Hid.mk (isBytes_below HY4.out hb56)
  have HZ6 := Hid.mk (isBytes_below hy5 hb6)
  clear HY4 hy5
  clear hb5 hb6 hb56 HB4 HK4
  go_wp2_with fail
  refine (HA5.out _ _ _ _ _ _ _ HY6.out HZ6.out).mono ?_
  rintro e w7 ⟨rfl, hb7⟩
  have HB7 := Hid.mk (bl2 HB6.out hb7)
  clear hb7 HB6 j0 j1 j2 j3 j4 j5
  go_wp2_with fail
  go_ret
  exact ⟨rfl, HB7.out⟩
end Bw
namespace frameRead
open Bw Bm
theorem walk (b : ByteArray) (w : World) (hs : b.size ≤ maxLen) (hL : laidMet Tryz.prog Rows.frameReadRow.laid w) :
    Calls Tryz.prog 4 #[.string b] w fun e w' => e = .returned (.bool true) ∧ Below w.heap.size w w' := by
  have hS := sizes_of hL (by simp [Rows.frameReadRow])
  have hR := rules_of hL (by simp [Rows.frameReadRow])
  have hD := bruijn_of hL (by simp [Rows.frameReadRow])
  by_cases hc : checkE b.data.toList = 0
  · by_cases hE : (rdE b.data.toList).fl = 0
    · exact frameRead_ok b w hS hR hD hc hE
    · exact frameRead_no b w hS hR hD hc hE
  · exact frameRead_bad b w hS hR hs hc
end frameRead
end Go.Proofs.YtemohjamcdkcmaaGreatDoor
