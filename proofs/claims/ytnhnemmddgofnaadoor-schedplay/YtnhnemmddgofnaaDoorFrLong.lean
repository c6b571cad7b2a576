/- What frame.Longest answers. -/
import Derived.Test.YtnhnemmddgofnaaDoorFrBits
import Derived.Test.YtnhnemmddgofnaaDoorC10
import Derived.Test.YtnhnemmddgofnaaDoorStuffMost
import Derived.Test.YtnhnemmddgofnaaDoorCheckSize
namespace Go.Proofs.YtnhnemmddgofnaaDoor
open Go.ChangeShapes Go.WideShapes Go.ChangeAt Go.RowKit
namespace Bw
open Bm Cm

/-- a frame with so many bytes, all 0 -/
def frZ (lo fa : Bool) (n : Nat) : Fr := ⟨0, lo, fa, false, 0, List.replicate n 0⟩
def mostN (k : Nat) : Nat := k + (k - 1) / 4
def longN (lo fa : Bool) (n : Nat) : Nat := if fa then mostN (headL (frZ lo fa n)).length + (if 16 < n then 32 else 27) + 10 else mostN ((headL (frZ lo fa n)).length + 15) + 10
def longE (lo fa : Bool) (n : Int) : Int := if n < 0 ∨ 64 < n then 2 else frEn 0 lo fa false 0 n.toNat
def longA (lo fa : Bool) (n : Int) : Value := if longE lo fa n = 0 then .tuple #[.int .i64 (longN lo fa n.toNat), .int .i64 0] else .tuple #[.int .i64 0, .int .i64 (longE lo fa n)]

set_option maxHeartbeats 2000000 in
theorem long_many (lo fa : Bool) (n : Int) (w : World) (h : n < 0 ∨ 64 < n) :
    Calls Tryd.prog 43 #[.bool lo, .bool fa, .int .i64 n] w fun e w' => e = .returned (.tuple #[.int .i64 0, .int .i64 2]) ∧ Below w.heap.size w w' := by
  by_cases h1 : n < 0
  · clear h
    go_enter Tryd.func43, Tryd.ntmps43
    go_wp2_with fail
    go_ret2
    exact ⟨rfl, Below.refl _ _⟩
  · have h2 : 64 < n := by omega
    have h3 : ¬ n < 0 := h1
    clear h
    go_enter Tryd.func43, Tryd.ntmps43
    go_wp2_with fail
    go_ret2
    exact ⟨rfl, Below.refl _ _⟩

set_option maxHeartbeats 8000000 in
set_option maxRecDepth 100000 in
theorem long_in (lo fa : Bool) (n : Nat) (w : World) (hS : SizesAt w) (hR : RulesAt w) (hn : n ≤ 64) :
    Calls Tryd.prog 43 #[.bool lo, .bool fa, .int .i64 n] w fun e w' => e = .returned (longA lo fa n) ∧ Below w.heap.size w w' := by
  obtain ⟨i0, hi, hz0, hz1, hz2⟩ := info_parts info_u8
  have hE : longE lo fa n = frE (frZ lo fa n) := by
    unfold longE frE frZ
    rw [if_neg (by omega)]
    simp
  have hdl : (frZ lo fa n).dt.length = n := by simp [frZ]
  have a1 := fun (a : Option Addr) (cap : Nat) W hW => frCheck_any 0 lo fa false 0 a n cap W hW (by unfold maxLen; omega)
  have hE1 : frEn 0 lo fa false 0 n = frE (frZ lo fa n) := by unfold frE; rw [hdl]; rfl
  rw [hE1] at a1
  have a2 := fun (a : Option Addr) (cap : Nat) W hE hW hB => head_any (frZ lo fa n) a n cap W hW hE hB
  have hHl := mk_list (headL (frZ lo fa n))
  have hHn := headL_le (frZ lo fa n) (by omega)
  have hHr := headL_row (frZ lo fa n)
  unfold longA
  rw [hE]
  have hlN : longN lo fa (n : Int).toNat = longN lo fa n := rfl
  rw [hlN]
  unfold longN
  generalize ByteArray.mk (headL (frZ lo fa n)).toArray = H at *
  have hHs : H.size = (headL (frZ lo fa n)).length := ba_size hHl
  rw [← hHs]
  have a3 := fun W hW => size_ok 0 W hW (by omega)
  have a4 := fun W => most_any (H.size + 15) W (by omega)
  have a5 := fun W => most_any H.size W (by omega)
  have a6 := fun W hW => fixedPart_any H 0 n W hW (by omega) (by omega) (by rw [hHl]; exact hHr) (by omega)
  have hFn := fixedL_len H.data.toList 0 n
  have hFl := mk_list (fixedL H.data.toList 0 n)
  generalize ByteArray.mk (fixedL H.data.toList 0 n).toArray = FX at *
  have hFs : FX.size = if 16 < n then 32 else 27 := by rw [ba_size hFl, hFn]
  rw [← hFs]
  have hFm : FX.size ≤ 32 := by rw [hFs]; split <;> omega
  have hk0 : ((kS 0 : Nat) : Int) = 15 := rfl
  rw [hk0] at a3
  have e15 : ((H.size + 15 : Nat) : Int) = (H.size : Int) + 15 := by omega
  rw [e15] at a4
  have m4 : mostN (H.size + 15) = H.size + 15 + (H.size + 15 - 1) / 4 := rfl
  have m5 : mostN H.size = H.size + (H.size - 1) / 4 := rfl
  rw [← m4] at a4
  rw [← m5] at a5
  have b4 : mostN (H.size + 15) ≤ 2000 := by rw [m4]; omega
  have b5 : mostN H.size ≤ 2000 := by rw [m5]; omega
  generalize mostN (H.size + 15) = M4 at *
  generalize mostN H.size = M5 at *
  have hHm : (H.size : Int) ≤ 553 := by omega
  have hze : ∀ a cap, frameV (frZ lo fa n).id (frZ lo fa n).lo (frZ lo fa n).fa (frZ lo fa n).re (frZ lo fa n).sz a n cap = frameV 0 lo fa false 0 a n cap := fun _ _ => rfl
  simp only [hze] at a2
  have hdt : (frZ lo fa n).dt = List.replicate n 0 := rfl
  rw [hdt] at a2
  generalize frE (frZ lo fa n) = ee at *
  have HA1 := Hid.mk a1
  have HA2 := Hid.mk a2
  have HA3 := Hid.mk a3
  have HA4 := Hid.mk a4
  have HA5 := Hid.mk a5
  have HA6 := Hid.mk a6
  have HS := Hid.mk hS
  have HR := Hid.mk hR
  have hn64 : (n : Int) ≤ 64 := by omega
  unfold frameV at HA1 HA2
  clear a1 a2 a3 a4 a5 a6 hS hR hE hdl hE1 hHl hHn hHr hlN hHs hFn hFl hFs hk0 e15 m4 m5 hze hdt
  have zero_cells : cellsOf (List.replicate n (0 : UInt8)) = List.replicate n (Value.int .u8 0) := by simp [cellsOf]
  have HZC := Hid.mk zero_cells
  clear zero_cells
  by_cases h0 : ee = 0
  · subst h0
    rw [if_pos rfl]
    cases fa
    · simp only [Bool.false_eq_true, if_false]
      go_enter Tryd.func43, Tryd.ntmps43
      go_wp2_with (at_make; refine wpList_make_full _ rfl (.tmp 25) (.tmp 25) 78 rfl w.heap.size 5 i0 (.int .u8 0) 1 Tryd.underlying78 hi hz0 hz1 .i64 .i64 _ _ n rfl rfl (by omega) (by omega) (by rw [hz2]; omega) (by unfold maxLen; omega) (Nat.le_refl _) ?_; intro w2 hown hgrow)
      have hown0 : w2.ownsRow w.heap.size 5 1 (.slice (some ⟨w.heap.size, 0, none⟩) n n) n (cellsOf (List.replicate n (0 : UInt8))) := by
        rw [HZC.out, ← toList_madeCells_one]
        rw [Nat.mul_one] at hown
        exact hown
      have hb2 : Below w.heap.size w w2 := Below.grown (Below.refl _ _) hgrow (Nat.le_refl _) (fun q hq => by cases hq)
      obtain ⟨av, cp, hv, hby, -⟩ := isBytes_ownP hown0
      have hv1 : av = some ⟨w.heap.size, 0, none⟩ ∧ cp = n := by
        simp only [Value.slice.injEq] at hv
        exact ⟨hv.1.symm, hv.2.2.symm⟩
      obtain ⟨rfl, rfl⟩ := hv1
      have hbx := below_box w2 0 lo false false 0 (some ⟨w.heap.size, 0, none⟩) cp cp
      have hkx := FrAt.box w2 0 lo false false 0 (some ⟨w.heap.size, 0, none⟩) cp cp
      unfold frameC at hbx hkx
      have HB2 := Hid.mk (bl2 hb2 hbx)
      have HK2 := Hid.mk hkx
      have HY2 := Hid.mk (isBytes_below hby hbx)
      clear hown hown0 hgrow hb2 hv hby hbx hkx
      go_wp2_with fail
      refine (HA1.out _ _ _ (HS.out.kept HB2.out)).mono ?_
      rintro e w3 ⟨rfl, hb3⟩
      have HB3 := Hid.mk (bl2 HB2.out hb3)
      have HK3 := Hid.mk (HK2.out.kept hb3)
      have HY3 := Hid.mk (isBytes_below HY2.out hb3)
      clear hb3 HB2 HK2 HY2
      obtain ⟨k0, k1, k2, k3, k4, k5⟩ := HK3.out
      go_wp2_with fail
      refine (HA2.out _ _ _ (by simp) (HS.out.kept HB3.out) HY3.out).mono ?_
      rintro e w4 ⟨rfl, hb4⟩
      have HB4 := Hid.mk (bl2 HB3.out hb4)
      clear hb4 HB3 HK3 HY3 k0 k1 k2 k3 k4 k5
      go_wp2_with fail
      refine (HA3.out _ (HR.out.kept HB4.out)).mono ?_
      rintro e w5 ⟨rfl, hw5⟩
      subst hw5
      go_wp2_with fail
      refine (HA4.out _).mono ?_
      rintro e w6 ⟨rfl, hw6⟩
      subst hw6
      go_wp2_with fail
      go_ret2
      exact ⟨by congr 4, HB4.out⟩
    · simp only [if_true]
      go_enter Tryd.func43, Tryd.ntmps43
      go_wp2_with (at_make; refine wpList_make_full _ rfl (.tmp 25) (.tmp 25) 78 rfl w.heap.size 5 i0 (.int .u8 0) 1 Tryd.underlying78 hi hz0 hz1 .i64 .i64 _ _ n rfl rfl (by omega) (by omega) (by rw [hz2]; omega) (by unfold maxLen; omega) (Nat.le_refl _) ?_; intro w2 hown hgrow)
      have hown0 : w2.ownsRow w.heap.size 5 1 (.slice (some ⟨w.heap.size, 0, none⟩) n n) n (cellsOf (List.replicate n (0 : UInt8))) := by
        rw [HZC.out, ← toList_madeCells_one]
        rw [Nat.mul_one] at hown
        exact hown
      have hb2 : Below w.heap.size w w2 := Below.grown (Below.refl _ _) hgrow (Nat.le_refl _) (fun q hq => by cases hq)
      obtain ⟨av, cp, hv, hby, -⟩ := isBytes_ownP hown0
      have hv1 : av = some ⟨w.heap.size, 0, none⟩ ∧ cp = n := by
        simp only [Value.slice.injEq] at hv
        exact ⟨hv.1.symm, hv.2.2.symm⟩
      obtain ⟨rfl, rfl⟩ := hv1
      have hbx := below_box w2 0 lo true false 0 (some ⟨w.heap.size, 0, none⟩) cp cp
      have hkx := FrAt.box w2 0 lo true false 0 (some ⟨w.heap.size, 0, none⟩) cp cp
      unfold frameC at hbx hkx
      have HB2 := Hid.mk (bl2 hb2 hbx)
      have HK2 := Hid.mk hkx
      have HY2 := Hid.mk (isBytes_below hby hbx)
      clear hown hown0 hgrow hb2 hv hby hbx hkx
      go_wp2_with fail
      refine (HA1.out _ _ _ (HS.out.kept HB2.out)).mono ?_
      rintro e w3 ⟨rfl, hb3⟩
      have HB3 := Hid.mk (bl2 HB2.out hb3)
      have HK3 := Hid.mk (HK2.out.kept hb3)
      have HY3 := Hid.mk (isBytes_below HY2.out hb3)
      clear hb3 HB2 HK2 HY2
      obtain ⟨k0, k1, k2, k3, k4, k5⟩ := HK3.out
      go_wp2_with fail
      refine (HA2.out _ _ _ (by simp) (HS.out.kept HB3.out) HY3.out).mono ?_
      rintro e w4 ⟨rfl, hb4⟩
      have HB4 := Hid.mk (bl2 HB3.out hb4)
      clear hb4 HB3 HK3 HY3 k0 k1 k2 k3 k4 k5
      go_wp2_with fail
      refine (HA5.out _).mono ?_
      rintro e w5 ⟨rfl, hw5⟩
      subst hw5
      go_wp2_with fail
      refine (HA6.out _ (HR.out.kept HB4.out)).mono ?_
      rintro e w6 ⟨rfl, hb6⟩
      have HB6 := Hid.mk (bl2 HB4.out hb6)
      clear hb6
      go_wp2_with fail
      go_ret2
      exact ⟨by congr 4, HB6.out⟩
  · rw [if_neg h0]
    have hne : (ee != 0) = true := by simpa using h0
    go_enter Tryd.func43, Tryd.ntmps43
    go_wp2_with (at_make; refine wpList_make_full _ rfl (.tmp 25) (.tmp 25) 78 rfl w.heap.size 5 i0 (.int .u8 0) 1 Tryd.underlying78 hi hz0 hz1 .i64 .i64 _ _ n rfl rfl (by omega) (by omega) (by rw [hz2]; omega) (by unfold maxLen; omega) (Nat.le_refl _) ?_; intro w2 hown hgrow)
    have hown0 : w2.ownsRow w.heap.size 5 1 (.slice (some ⟨w.heap.size, 0, none⟩) n n) n (cellsOf (List.replicate n (0 : UInt8))) := by
      rw [HZC.out, ← toList_madeCells_one]
      rw [Nat.mul_one] at hown
      exact hown
    have hb2 : Below w.heap.size w w2 := Below.grown (Below.refl _ _) hgrow (Nat.le_refl _) (fun q hq => by cases hq)
    obtain ⟨av, cp, hv, hby, -⟩ := isBytes_ownP hown0
    have hv1 : av = some ⟨w.heap.size, 0, none⟩ ∧ cp = n := by
      simp only [Value.slice.injEq] at hv
      exact ⟨hv.1.symm, hv.2.2.symm⟩
    obtain ⟨rfl, rfl⟩ := hv1
    have hbx := below_box w2 0 lo fa false 0 (some ⟨w.heap.size, 0, none⟩) cp cp
    have hkx := FrAt.box w2 0 lo fa false 0 (some ⟨w.heap.size, 0, none⟩) cp cp
    unfold frameC at hbx hkx
    have HB2 := Hid.mk (bl2 hb2 hbx)
    have HK2 := Hid.mk hkx
    have HY2 := Hid.mk (isBytes_below hby hbx)
    clear hown hown0 hgrow hb2 hv hby hbx hkx
    go_wp2_with fail
    refine (HA1.out _ _ _ (HS.out.kept HB2.out)).mono ?_
    rintro e w3 ⟨rfl, hb3⟩
    have HB3 := Hid.mk (bl2 HB2.out hb3)
    have HK3 := Hid.mk (HK2.out.kept hb3)
    have HY3 := Hid.mk (isBytes_below HY2.out hb3)
    clear hb3 HB2 HK2 HY2
    obtain ⟨k0, k1, k2, k3, k4, k5⟩ := HK3.out
    go_wp2_with fail
    go_ret2
    exact ⟨rfl, HB3.out⟩
theorem frLong_any (lo fa : Bool) (n : Int) (w : World) (hS : SizesAt w) (hR : RulesAt w) :
    Calls Tryd.prog 43 #[.bool lo, .bool fa, .int .i64 n] w fun e w' => e = .returned (longA lo fa n) ∧ Below w.heap.size w w' := by
  by_cases h : n < 0 ∨ 64 < n
  · have hE : longE lo fa n = 2 := by unfold longE; rw [if_pos h]
    unfold longA
    rw [hE, if_neg (by decide)]
    exact long_many lo fa n w h
  · obtain ⟨m, rfl⟩ : ∃ m : Nat, n = (m : Int) := ⟨n.toNat, by omega⟩
    exact long_in lo fa m w hS hR (by omega)
end Bw
end Go.Proofs.YtnhnemmddgofnaaDoor
