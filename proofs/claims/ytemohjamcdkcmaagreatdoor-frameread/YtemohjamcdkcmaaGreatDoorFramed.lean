/- The closed fact that each law of frames asks for: a frame, there and back. -/
import Derived.Test.YtemohjamcdkcmaaGreatDoorFrBack
import Derived.Test.YtemohjamcdkcmaaGreatDoorD1
import Derived.Test.YtemohjamcdkcmaaGreatDoorShelfPre
namespace Go.Proofs.YtemohjamcdkcmaaGreatDoor
open Go.ChangeShapes Go.WideShapes Go.ChangeAt Go.RowKit
namespace Bw
open Bm Cm

def fr5 : Fr := ⟨5, false, false, false, 0, [1, 255]⟩
theorem fr5_ok : frE fr5 = 0 := by decide +kernel
theorem fr5_pre : Lib.hasPrefix (bitsL fr5) [48, 48, 48, 48, 48, 49, 48, 48, 48, 48, 49, 48, 49] = true := by decide +kernel
def d5C : Obj := .cells #[.int .u8 1, .int .u8 255] 5
theorem d5_bytes (w : World) : IsBytes (w.alloc d5C) (some ⟨w.heap.size, 0, none⟩) 2 2 [1, 255] := by
  refine ⟨rfl, Nat.le_refl _, by unfold maxLen; decide, (fun h => by cases h), ?_⟩
  intro x hx i hi
  cases hx
  have e : (Addr.add ⟨w.heap.size, 0, none⟩ i) = ⟨w.heap.size, i, none⟩ := by simp [Addr.add]; exact fun h => h.symm
  rw [e, cell_of_row _ _ i _ _ _ (heap_alloc_new w d5C)]
  match i, hi with
  | 0, _ => rfl
  | 1, _ => rfl

set_option maxHeartbeats 8000000 in
theorem framed_any (w : World) (hS : SizesAt w) (hR : RulesAt w) :
    Calls Tryz.prog 11 #[] w fun e w' => e = .returned (.bool true) ∧ Below w.heap.size w w' := by
  have hB0 : Below w.heap.size w (w.alloc d5C) := (Below.refl _ _).alloc (Nat.le_refl _) _
  have hB1 := bl2 hB0 (below_box (w.alloc d5C) 5 false false false 0 (some ⟨w.heap.size, 0, none⟩) 2 2)
  have hK := FrAt.box (w.alloc d5C) 5 false false false 0 (some ⟨w.heap.size, 0, none⟩) 2 2
  have hY := isBytes_below (d5_bytes w) (below_box (w.alloc d5C) 5 false false false 0 (some ⟨w.heap.size, 0, none⟩) 2 2)
  have a1 := frBits_ok fr5 (some ⟨w.heap.size, 0, none⟩) 2 2 _ (hS.kept hB1) (hR.kept hB1) hY fr5_ok
  have hsz : (w.alloc d5C).heap.size = w.heap.size + 1 := by simp
  rw [hsz] at hK
  have hbl := bitsL_len fr5
  have hpl := preL_len fr5 fr5_ok
  have hBl := mk_list (bitsL fr5)
  have hpre := fr5_pre
  have hT : ∀ X : ByteArray, X.data.toList = bitsL fr5 → (X ++ ⟨#[49]⟩).data.toList = preL fr5 ++ (onesL ++ [49]) := by
    intro X hX
    rw [ba_cat, hX, bitsL_pre, List.append_assoc]
  have a2 := fun X W hX hSW hRW hn => readBack_any fr5 onesL [49] (X ++ ⟨#[49]⟩) W hSW hRW fr5_ok (.inl rfl) (hT X hX) (by decide) hn
  have a3 := fun W a len cap h1 h2 => sameFrame_true fr5 (some ⟨w.heap.size, 0, none⟩) a 2 2 len cap W h1 h2
  have a4 := fun X W => Tryz.strings_HasPrefix X ⟨#[48, 48, 48, 48, 48, 49, 48, 48, 48, 48, 49, 48, 49]⟩ W
  generalize ByteArray.mk (bitsL fr5).toArray = X at *
  have hXs : X.size = (preL fr5).length + 10 := by rw [ba_size hBl, hbl]
  have a4' := a4 X
  rw [hBl, hpre] at a4'
  have a2' := fun W hSW hRW => a2 X W hBl hSW hRW (by show (X ++ ⟨#[49]⟩).size ≤ 1000; rw [ByteArray.size_append]; show X.size + 1 ≤ 1000; omega)
  rw [← hXs] at a2'
  have hXm : X.size ≤ 760 := by omega
  have HA1 := Hid.mk a1
  have HA2 := Hid.mk a2'
  have HA3 := Hid.mk a3
  have HA4 := Hid.mk a4'
  have HK := Hid.mk hK
  have HY := Hid.mk hY
  have HB := Hid.mk hB1
  have HS := Hid.mk hS
  have HR := Hid.mk hR
  unfold frameC d5C at HA1 HK HY HB
  simp only [fr5] at HA1 HA2 HA3 HY
  unfold frameV at HA1 HA2 HA3
  clear a1 a2 a2' a3 a4 a4' hK hY hB0 hB1 hS hR hbl hpl hBl hpre hT hXs hsz
  go_enter Tryz.func11, Tryz.ntmps11
  go_wp2_with fail
  refine HA1.out.mono ?_
  rintro e w1 ⟨rfl, hb1⟩
  have HB1 := Hid.mk (bl2 HB.out hb1)
  have HK1 := Hid.mk (HK.out.kept hb1)
  have HY1 := Hid.mk (isBytes_below HY.out hb1)
  clear hb1 HB HK HY HA1
  go_wp2_with fail
  refine (HA2.out _ (HS.out.kept HB1.out) (HR.out.kept HB1.out)).mono ?_
  rintro e w2 ⟨a, len, cap, rfl, hby, hb2⟩
  have hb3 : Below w2.heap.size w2 (w2.alloc (.cells #[.int .i64 5, .bool false, .bool false, .bool false, .int .i64 0, .slice a len cap] 24)) := (Below.refl _ _).alloc (Nat.le_refl _) _
  have hb23 := bl2 hb2 hb3
  have HB3 := Hid.mk (bl2 HB1.out hb23)
  obtain ⟨k0, k1, k2, k3, k4, k5⟩ := HK1.out.kept hb23
  have HY3 := Hid.mk (isBytes_below HY1.out hb23)
  have HZ3 := Hid.mk (isBytes_below hby hb3)
  clear hb2 hby hb3 hb23 HB1 HK1 HY1 HA2
  go_wp2_with fail
  refine (HA3.out _ _ _ _ HY3.out HZ3.out).mono ?_
  rintro e w4 ⟨rfl, hb4⟩
  have HB4 := Hid.mk (bl2 HB3.out hb4)
  clear hb4 HB3 HY3 HZ3 HA3 k0 k1 k2 k3 k4 k5
  go_wp2_with fail
  refine (HA4.out _).mono ?_
  rintro e w5 ⟨rfl, hw5⟩
  subst hw5
  go_wp2_with fail
  go_ret
  exact ⟨rfl, HB4.out⟩
end Bw
end Go.Proofs.YtemohjamcdkcmaaGreatDoor
