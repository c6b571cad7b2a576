/- The law WireNoise: with any bits turned any frame is read as the document says, errors too. -/
import Derived.Test.YtemohjamcdkcmaaGreatDoorWN1
import Derived.Test.YtemohjamcdkcmaaGreatDoorW4
import Derived.Test.YtemohjamcdkcmaaGreatDoorRF
import Derived.Test.YtemohjamcdkcmaaGreatDoorC21
import Derived.Test.YtemohjamcdkcmaaGreatDoorRD4
import Derived.Test.YtemohjamcdkcmaaGreatDoorC2
import Derived.Test.YtemohjamcdkcmaaGreatDoorC22
namespace Go.Proofs.YtemohjamcdkcmaaGreatDoor
open Go.ChangeShapes Go.WideShapes Go.ChangeAt Go.RowKit
namespace Bw
open Bm Cm
set_option maxHeartbeats 16000000 in
set_option maxRecDepth 100000 in
theorem wnoise_bad (hCF : CheckF) (f : Fr) (a : Option Addr) (len cap : Nat) (p : Option Addr) (n c : Nat) (w : World) (hS : SizesAt w) (hR : RulesAt w) (hD : w.cell? ⟨5, 1, none⟩ = some (.int .u8 1)) (hby : IsBytes w a len cap f.dt) (hE : frE f ≠ 0) :
    Calls Tryz.prog 6 #[frameV f.id f.lo f.fa f.re f.sz a len cap, .slice p n c] w fun e w' => e = .returned (.bool true) ∧ Below w.heap.size w w' := by
  have hB := below_box w f.id f.lo f.fa f.re f.sz a len cap
  have hK := FrAt.box w f.id f.lo f.fa f.re f.sz a len cap
  have hY := isBytes_below hby hB
  have a1 := noise_bad f a len cap p n c _ (hS.kept hB) (hR.kept hB) hY hE
  have HA1 := Hid.mk a1
  have HA2 := Hid.mk (fun W hW => hCF.fr f a len cap W hW)
  have HA3 := Hid.mk (fun W h1 h2 => wired_any W h1 h2)
  have HA4 := Hid.mk (fun W => noFrameN W)
  have HB0 := Hid.mk hB
  have HK0 := Hid.mk hK
  have HY0 := Hid.mk hY
  have HS := Hid.mk hS
  have HR := Hid.mk hR
  have HD := Hid.mk hD
  unfold frameC at HA1 HB0 HK0 HY0
  unfold frameV at HA1 HA2 ⊢
  clear a1 hB hK hY hS hR hby hD hCF
  have hne : (frE f != 0) = true := by simpa using hE
  have hnq : (frE f == 0) = false := by simpa using hE
  clear hE
  generalize frE f = ce at *
  go_enter Tryz.func6, Tryz.ntmps6
  obtain ⟨m0, m1, m2, m3, m4, m5⟩ := HK0.out
  go_wp2_with fail
  refine HA1.out.mono ?_
  rintro e w1 ⟨rfl, hb1⟩
  have hbx : Below w1.heap.size w1 (w1.alloc (.cells #[.int .i64 0, .bool false, .bool false, .bool false, .int .i64 0, .slice none 0 0] 24)) := (Below.refl _ _).alloc (Nat.le_refl _) _
  have hb12 := bl2 hb1 hbx
  have HG2 := Hid.mk (FrAt.box w1 0 false false false 0 none 0 0)
  unfold frameC at HG2
  have HB2 := Hid.mk (bl2 HB0.out hb12)
  have HK2 := Hid.mk (HK0.out.kept hb12)
  have HY2 := Hid.mk (isBytes_below HY0.out hb12)
  obtain ⟨k0, k1, k2, k3, k4, k5⟩ := HK2.out
  clear hb1 hbx hb12 HB0 HK0 HY0 m0 m1 m2 m3 m4 m5
  go_wp2_with fail
  refine (HA2.out _ HY2.out).mono ?_
  rintro e w3 ⟨rfl, hb3⟩
  have HB3 := Hid.mk (bl2 HB2.out hb3)
  have HG3 := Hid.mk (HG2.out.kept hb3)
  have HK3 := Hid.mk (HK2.out.kept hb3)
  have HY3 := Hid.mk (isBytes_below HY2.out hb3)
  clear hb3 HB2 HG2 HK2 HY2 k0 k1 k2 k3 k4 k5
  go_wp2_with fail
  refine (HA3.out _ (HS.out.kept HB3.out) (HR.out.kept HB3.out)).mono ?_
  rintro e w6 ⟨rfl, hb6⟩
  have HB6 := Hid.mk (bl2 HB3.out hb6)
  have HG6 := Hid.mk (HG3.out.kept hb6)
  clear hb6
  go_wp2_with fail
  refine (HA3.out _ (HS.out.kept HB6.out) (HR.out.kept HB6.out)).mono ?_
  rintro e w7 ⟨rfl, hb7⟩
  have HB7 := Hid.mk (bl2 HB6.out hb7)
  obtain ⟨n0, n1, n2, n3, n4, n5⟩ := HG6.out.kept hb7
  clear hb7
  go_wp2_with fail
  refine (HA4.out _).mono ?_
  rintro e w8 ⟨rfl, hb8⟩
  have HB8 := Hid.mk (bl2 HB7.out hb8)
  clear hb8 n0 n1 n2 n3 n4 n5
  go_wp2_with fail
  go_ret
  exact ⟨rfl, HB8.out⟩
set_option maxHeartbeats 16000000 in
set_option maxRecDepth 100000 in
theorem wnoise_many (hCF : CheckF) (f : Fr) (a : Option Addr) (len cap : Nat) (p : Option Addr) (n c : Nat) (w : World) (hS : SizesAt w) (hR : RulesAt w) (hD : w.cell? ⟨5, 1, none⟩ = some (.int .u8 1)) (hby : IsBytes w a len cap f.dt) (hE : frE f = 0) (hn : 1000 < n) :
    Calls Tryz.prog 6 #[frameV f.id f.lo f.fa f.re f.sz a len cap, .slice p n c] w fun e w' => e = .returned (.bool true) ∧ Below w.heap.size w w' := by
  have hB := below_box w f.id f.lo f.fa f.re f.sz a len cap
  have hK := FrAt.box w f.id f.lo f.fa f.re f.sz a len cap
  have hY := isBytes_below hby hB
  have a1 := noise_many f a len cap p n c _ (hS.kept hB) (hR.kept hB) hY hE hn
  have HA1 := Hid.mk a1
  have HA2 := Hid.mk (fun W hW => hCF.fr f a len cap W hW)
  have HA3 := Hid.mk (fun W h1 h2 => wired_any W h1 h2)
  have HA4 := Hid.mk (fun W => noFrameN W)
  have HB0 := Hid.mk hB
  have HK0 := Hid.mk hK
  have HY0 := Hid.mk hY
  have HS := Hid.mk hS
  have HR := Hid.mk hR
  have HD := Hid.mk hD
  unfold frameC at HA1 HB0 HK0 HY0
  unfold frameV at HA1 HA2 ⊢
  clear a1 hB hK hY hS hR hby hD hCF
  rw [hE] at HA2
  have hn2 : (1000 : Int) < (n : Int) := by omega
  clear hE
  go_enter Tryz.func6, Tryz.ntmps6
  obtain ⟨m0, m1, m2, m3, m4, m5⟩ := HK0.out
  go_wp2_with fail
  refine HA1.out.mono ?_
  rintro e w1 ⟨rfl, hb1⟩
  have hbx : Below w1.heap.size w1 (w1.alloc (.cells #[.int .i64 0, .bool false, .bool false, .bool false, .int .i64 0, .slice none 0 0] 24)) := (Below.refl _ _).alloc (Nat.le_refl _) _
  have hb12 := bl2 hb1 hbx
  have HG2 := Hid.mk (FrAt.box w1 0 false false false 0 none 0 0)
  unfold frameC at HG2
  have HB2 := Hid.mk (bl2 HB0.out hb12)
  have HK2 := Hid.mk (HK0.out.kept hb12)
  have HY2 := Hid.mk (isBytes_below HY0.out hb12)
  obtain ⟨k0, k1, k2, k3, k4, k5⟩ := HK2.out
  clear hb1 hbx hb12 HB0 HK0 HY0 m0 m1 m2 m3 m4 m5
  go_wp2_with fail
  refine (HA2.out _ HY2.out).mono ?_
  rintro e w3 ⟨rfl, hb3⟩
  have HB3 := Hid.mk (bl2 HB2.out hb3)
  have HG3 := Hid.mk (HG2.out.kept hb3)
  have HK3 := Hid.mk (HK2.out.kept hb3)
  have HY3 := Hid.mk (isBytes_below HY2.out hb3)
  clear hb3 HB2 HG2 HK2 HY2 k0 k1 k2 k3 k4 k5
  go_wp2_with fail
  refine (HA3.out _ (HS.out.kept HB3.out) (HR.out.kept HB3.out)).mono ?_
  rintro e w6 ⟨rfl, hb6⟩
  have HB6 := Hid.mk (bl2 HB3.out hb6)
  have HG6 := Hid.mk (HG3.out.kept hb6)
  clear hb6
  go_wp2_with fail
  refine (HA3.out _ (HS.out.kept HB6.out) (HR.out.kept HB6.out)).mono ?_
  rintro e w7 ⟨rfl, hb7⟩
  have HB7 := Hid.mk (bl2 HB6.out hb7)
  obtain ⟨n0, n1, n2, n3, n4, n5⟩ := HG6.out.kept hb7
  clear hb7
  go_wp2_with fail
  refine (HA4.out _).mono ?_
  rintro e w8 ⟨rfl, hb8⟩
  have HB8 := Hid.mk (bl2 HB7.out hb8)
  clear hb8 n0 n1 n2 n3 n4 n5
  go_wp2_with fail
  go_ret
  exact ⟨rfl, HB8.out⟩
end Bw
end Go.Proofs.YtemohjamcdkcmaaGreatDoor
namespace Go.Proofs.YtemohjamcdkcmaaGreatDoor
open Go.ChangeShapes Go.WideShapes Go.ChangeAt Go.RowKit
namespace Bw
open Bm Cm
set_option maxHeartbeats 16000000 in
set_option maxRecDepth 100000 in
theorem wnoise_out (hCF : CheckF) (f : Fr) (a : Option Addr) (len cap : Nat) (p : Option Addr) (n c : Nat) (w : World) (hS : SizesAt w) (hR : RulesAt w) (hD : w.cell? ⟨5, 1, none⟩ = some (.int .u8 1)) (hby : IsBytes w a len cap f.dt) (zs : List Int) (hE : frE f = 0) (hn : n ≤ 1000) (hz : NumsA w p n zs) (hin : inAll (bitsL f).length zs = false) :
    Calls Tryz.prog 6 #[frameV f.id f.lo f.fa f.re f.sz a len cap, .slice p n c] w fun e w' => e = .returned (.bool true) ∧ Below w.heap.size w w' := by
  have hB := below_box w f.id f.lo f.fa f.re f.sz a len cap
  have hK := FrAt.box w f.id f.lo f.fa f.re f.sz a len cap
  have hY := isBytes_below hby hB
  have a1 := noise_out f a len cap p n c zs _ (hS.kept hB) (hR.kept hB) hY hE hn (hz.kept hB) hin
  have hl1 := bitsL_len f
  have hl2 := preL_len f hE
  have HN := Hid.mk hz
  have HIN := Hid.mk hin
  have HLEN := Hid.mk (show (bitsL f).length ≤ 900 by omega)
  have HA5 := Hid.mk (fun W hW hB => bitsOf_any f a len cap W hW hE hB)
  unfold frameV at HA5
  have HA1 := Hid.mk a1
  have HA2 := Hid.mk (fun W hW => hCF.fr f a len cap W hW)
  have HA3 := Hid.mk (fun W h1 h2 => wired_any W h1 h2)
  have HA4 := Hid.mk (fun W => noFrameN W)
  have HB0 := Hid.mk hB
  have HK0 := Hid.mk hK
  have HY0 := Hid.mk hY
  have HS := Hid.mk hS
  have HR := Hid.mk hR
  have HD := Hid.mk hD
  unfold frameC at HA1 HB0 HK0 HY0
  unfold frameV at HA1 HA2 ⊢
  clear a1 hB hK hY hS hR hby hD hCF
  rw [hE] at HA2
  have hn2 : (n : Int) ≤ 1000 := by omega
  obtain ⟨BT, hBT⟩ : ∃ BT : ByteArray, BT = ⟨(bitsL f).toArray⟩ := ⟨_, rfl⟩
  rw [← hBT] at HA5
  have HBT := Hid.mk (show BT.data.toList = bitsL f by rw [hBT])
  clear hE hz hin hl1 hl2 hBT
  go_enter Tryz.func6, Tryz.ntmps6
  obtain ⟨m0, m1, m2, m3, m4, m5⟩ := HK0.out
  go_wp2_with fail
  refine HA1.out.mono ?_
  rintro e w1 ⟨rfl, hb1⟩
  have hbx : Below w1.heap.size w1 (w1.alloc (.cells #[.int .i64 0, .bool false, .bool false, .bool false, .int .i64 0, .slice none 0 0] 24)) := (Below.refl _ _).alloc (Nat.le_refl _) _
  have hb12 := bl2 hb1 hbx
  have HG2 := Hid.mk (FrAt.box w1 0 false false false 0 none 0 0)
  unfold frameC at HG2
  have HB2 := Hid.mk (bl2 HB0.out hb12)
  have HK2 := Hid.mk (HK0.out.kept hb12)
  have HY2 := Hid.mk (isBytes_below HY0.out hb12)
  obtain ⟨k0, k1, k2, k3, k4, k5⟩ := HK2.out
  clear hb1 hbx hb12 HB0 HK0 HY0 m0 m1 m2 m3 m4 m5
  go_wp2_with fail
  refine (HA2.out _ HY2.out).mono ?_
  rintro e w3 ⟨rfl, hb3⟩
  have HB3 := Hid.mk (bl2 HB2.out hb3)
  have HG3 := Hid.mk (HG2.out.kept hb3)
  have HK3 := Hid.mk (HK2.out.kept hb3)
  have HY3 := Hid.mk (isBytes_below HY2.out hb3)
  clear hb3 HB2 HG2 HK2 HY2 k0 k1 k2 k3 k4 k5
  obtain ⟨k0, k1, k2, k3, k4, k5⟩ := HK3.out
  go_wp2_with fail
  refine (HA5.out _ (cell_kept HB3.out HD.out) HY3.out).mono ?_
  rintro e w4 ⟨rfl, hb4⟩
  have HB4 := Hid.mk (bl2 HB3.out hb4)
  have HG4 := Hid.mk (HG3.out.kept hb4)
  clear hb4 HB3 HG3 HK3 HY3 k0 k1 k2 k3 k4 k5
  go_wp2_with fail
  go_loopw [7, 8, 35] (fun b r i wr => ∃ k : Nat, k ≤ n ∧ i = .int .i64 k ∧ b = .int .i64 0 ∧ (∃ RT : ByteArray, r = .string RT ∧ Hid (RT.data.toList = turnK (bitsL f) zs k)) ∧ Hid (inK (bitsL f).length zs k) ∧ Hid (Below w4.heap.size w4 wr)) (fun _ _ i _ => n - (intOf i).toNat)
  case atStart => exact ⟨0, Nat.zero_le _, rfl, rfl, ⟨BT, rfl, HBT⟩, Hid.mk (fun j hj => absurd hj (Nat.not_lt_zero _)), Hid.mk (Below.refl _ _)⟩
  case round =>
    obtain ⟨k, hk, rfl, rfl, ⟨RT, rfl, HRT⟩, HI, HB⟩ := hrel
    have HBw := Hid.mk (bl2 HB4.out HB.out)
    have HRS := Hid.mk (show RT.size = (bitsL f).length by rw [ba_size HRT.out, turnK_len])
    have hR9 : RT.size ≤ 900 := by rw [HRS.out]; exact HLEN.out
    by_cases hlt : k < n
    · have hlt' : (k : Int) < (n : Int) := by omega
      have hkl : k < zs.length := by rw [HN.out.1]; exact hlt
      cases p with
      | none => exact absurd (HN.out.2.1 rfl) (by omega)
      | some x =>
        have cz := cell_kept HBw.out (HN.out.2.2 x rfl k hlt)
        by_cases hzi : 0 ≤ zs.getD k 0 ∧ zs.getD k 0 < ((bitsL f).length : Int)
        · obtain ⟨i, hi⟩ : ∃ i : Nat, zs.getD k 0 = (i : Int) := ⟨(zs.getD k 0).toNat, by omega⟩
          have HIn := Hid.mk (inK_next HI.out hzi.1 hzi.2)
          rw [hi] at cz hzi
          have hiR : i < RT.size := by rw [HRS.out]; omega
          have hiR' : (i : Int) < (RT.size : Int) := by omega
          have hch := at_getD RT i hiR
          obtain ⟨ch, hchE⟩ : ∃ ch, ch = RT[i] := ⟨_, rfl⟩
          have htn : RT.data.toList.take i ++ otb ch :: RT.data.toList.drop (i + 1) = turnK (bitsL f) zs (k + 1) := by
            rw [turnK, hi, Int.toNat_natCast, ← HRT.out, set_parts _ _ _ (by simpa using hiR), hchE, hch]
          have HTN := Hid.mk htn
          have hsl1 : ∀ W, (Instr.slice 9 (.string RT) none (some (.int .i64 (i : Int))) none).run Tryz.prog W = .ok (.string (RT.extract 0 i)) W := by
            intro W
            rw [run_slice_string_h W _ RT Tryz.underlying9 .i64 _ (by omega) (by omega), Int.toNat_natCast]
          have hsl2 : ∀ W, (Instr.slice 9 (.string RT) (some (.int .i64 (IntKind.i64.wrap ((i : Int) + 1)))) none none).run Tryz.prog W = .ok (.string (RT.extract (i + 1) RT.size)) W := by
            intro W
            rw [show IntKind.i64.wrap ((i : Int) + 1) = ((i + 1 : Nat) : Int) by rw [IntKind.wrap_i64]; omega]
            rw [run_slice_string_l W _ RT Tryz.underlying9 .i64 _ (by omega) (by omega), Int.toNat_natCast]
          have hcv := convert_lit (wr.alloc (.cells #[.int .u8 (otb ch).toNat] 5)).drew wr.heap.size (otb ch) (heap_alloc_new wr _)
          have HX1 := Hid.mk (show (RT.extract 0 i).data.toList = RT.data.toList.take i by
            have := extract_list RT 0 i
            rw [Nat.zero_add] at this
            rw [this, List.drop_zero])
          have HX2 := Hid.mk (show (RT.extract (i + 1) RT.size).data.toList = RT.data.toList.drop (i + 1) by
            have := extract_list RT (i + 1) (RT.size - (i + 1))
            rw [show i + 1 + (RT.size - (i + 1)) = RT.size by omega] at this
            rw [this]
            exact List.take_of_length_le (by simp))
          have hs1 : (RT.extract 0 i).size ≤ 900 := by rw [ByteArray.size_extract]; omega
          have hs2 : (RT.extract (i + 1) RT.size).size ≤ 900 := by rw [ByteArray.size_extract]; omega
          generalize RT.extract 0 i = E1 at *
          generalize RT.extract (i + 1) RT.size = E2 at *
          have HB5 := Hid.mk (show Below w4.heap.size w4 ((wr.alloc (.cells #[.int .u8 (otb ch).toNat] 5)).drew) from (HB.out.alloc HB.out.size _).drew)
          have HCH := Hid.mk hchE
          clear htn hzi hi hkl hch hchE
          go_wp2_with fail
          go_region_with (go_at_call 27; rw [← HCH.out]; refine (otherR_any ch _).mono ?_; rintro e w2 ⟨rfl, hw2⟩; subst hw2)
          all_goals focus
            generalize hX : E1 ++ ⟨#[otb ch]⟩ ++ E2 = X
            have HXl := Hid.mk (show X.data.toList = turnK (bitsL f) zs (k + 1) by
              rw [← hX, ba_cat, ba_cat, HX1.out, HX2.out, ← HTN.out]; simp)
            clear hX hsl1 hsl2 hcv
            go_wp2_with fail
            go_roundw
            case rel => exact ⟨k + 1, by omega, by go_num, rfl, ⟨X, rfl, HXl⟩, HIn, HB5⟩
            case measure => simp [intOf]; omega
        · have hzB : ¬ (0 ≤ zs.getD k 0 ∧ zs.getD k 0 < (RT.size : Int)) := by rw [HRS.out]; exact hzi
          have HG5 := Hid.mk (HG4.out.kept HB.out)
          generalize zs.getD k 0 = zk at *
          clear hzi hkl HI HRT
          by_cases h0 : zk < 0
          · go_wp2_with fail
            refine (HA3.out _ (HS.out.kept HBw.out) (HR.out.kept HBw.out)).mono ?_
            rintro e w6 ⟨rfl, hb6⟩
            have HB6 := Hid.mk (bl2 HBw.out hb6)
            have HG6 := Hid.mk (HG5.out.kept hb6)
            clear hb6
            go_wp2_with fail
            refine (HA3.out _ (HS.out.kept HB6.out) (HR.out.kept HB6.out)).mono ?_
            rintro e w7 ⟨rfl, hb7⟩
            have HB7 := Hid.mk (bl2 HB6.out hb7)
            obtain ⟨n0, n1, n2, n3, n4, n5⟩ := HG6.out.kept hb7
            clear hb7
            go_wp2_with fail
            refine (HA4.out _).mono ?_
            rintro e w8 ⟨rfl, hb8⟩
            have HB8 := Hid.mk (bl2 HB7.out hb8)
            clear hb8 n0 n1 n2 n3 n4 n5
            go_wp2_with fail
            go_ret
            exact ⟨rfl, HB8.out⟩
          · have h1 : (RT.size : Int) ≤ zk := by omega
            have h0' : 0 ≤ zk := by omega
            clear hzB
            go_wp2_with fail
            refine (HA3.out _ (HS.out.kept HBw.out) (HR.out.kept HBw.out)).mono ?_
            rintro e w6 ⟨rfl, hb6⟩
            have HB6 := Hid.mk (bl2 HBw.out hb6)
            have HG6 := Hid.mk (HG5.out.kept hb6)
            clear hb6
            go_wp2_with fail
            refine (HA3.out _ (HS.out.kept HB6.out) (HR.out.kept HB6.out)).mono ?_
            rintro e w7 ⟨rfl, hb7⟩
            have HB7 := Hid.mk (bl2 HB6.out hb7)
            obtain ⟨n0, n1, n2, n3, n4, n5⟩ := HG6.out.kept hb7
            clear hb7
            go_wp2_with fail
            refine (HA4.out _).mono ?_
            rintro e w8 ⟨rfl, hb8⟩
            have HB8 := Hid.mk (bl2 HB7.out hb8)
            clear hb8 n0 n1 n2 n3 n4 n5
            go_wp2_with fail
            go_ret
            exact ⟨rfl, HB8.out⟩
    · exfalso
      have e : k = zs.length := by have := HN.out.1; omega
      have h1 := HI.out
      rw [e] at h1
      have h2 := inAll_of h1
      rw [HIN.out] at h2
      cases h2
end Bw
end Go.Proofs.YtemohjamcdkcmaaGreatDoor
namespace Go.Proofs.YtemohjamcdkcmaaGreatDoor
open Go.ChangeShapes Go.WideShapes Go.ChangeAt Go.RowKit
namespace Bw
open Bm Cm
theorem rdUN (b : List UInt8) (hb : rowB b = true) (h : (rdD b).S.fl = 0) : 0 < (rdD b).S.u ∧ (rdD b).S.u ≤ b.length := by
  have iA := name_inv hb (Inv.start b) Mst.start
  have iB := form_inv hb iA.1 iA.2.1 (rdA b).lo (rdA b).re
  have iD := data_inv hb iB.1 iB.2.1 (rdB b).2 (rdA b).re
  have h1 : Inv b (rdD b).S (0 + 33 + 4 + 516) := iD.1
  have h2 : Mst (rdD b).S := iD.2.1
  have h3 : Fed (rdD b).S := iD.2.2
  have := h3 h
  unfold Mst at h2
  have a1 := h1.ou
  have a3 := h1.u
  exact ⟨by omega, a3⟩
set_option maxHeartbeats 16000000 in
set_option maxRecDepth 100000 in
theorem wnoise_no (hCF : CheckF) (f : Fr) (a : Option Addr) (len cap : Nat) (p : Option Addr) (n c : Nat) (w : World) (hS : SizesAt w) (hR : RulesAt w) (hD : w.cell? ⟨5, 1, none⟩ = some (.int .u8 1)) (hby : IsBytes w a len cap f.dt) (zs : List Int) (hE : frE f = 0) (hn : n ≤ 1000) (hz : NumsA w p n zs) (hin : inAll (bitsL f).length zs = true) (hr : (rdE (turnK (bitsL f) zs zs.length)).fl ≠ 0) :
    Calls Tryz.prog 6 #[frameV f.id f.lo f.fa f.re f.sz a len cap, .slice p n c] w fun e w' => e = .returned (.bool true) ∧ Below w.heap.size w w' := by
  have hB := below_box w f.id f.lo f.fa f.re f.sz a len cap
  have hK := FrAt.box w f.id f.lo f.fa f.re f.sz a len cap
  have hY := isBytes_below hby hB
  have a1 := noise_no f a len cap p n c zs _ (hS.kept hB) (hR.kept hB) hY hE hn (hz.kept hB) hin hr
  have hl1 := bitsL_len f
  have hl2 := preL_len f hE
  have HN := Hid.mk hz
  have HIN := Hid.mk hin
  have HLEN := Hid.mk (show (bitsL f).length ≤ 900 by omega)
  have HA5 := Hid.mk (fun W hW hB => bitsOf_any f a len cap W hW hE hB)
  unfold frameV at HA5
  have hrow := turnK_row (bitsL f) zs (bitsL_row f) zs.length
  have hrl := turnK_len (bitsL f) zs zs.length
  obtain ⟨hsf, hsu⟩ := read_same _ hrow (rdUN _ hrow)
  have a4 := fun (RT : ByteArray) (hRT : RT.data.toList = turnK (bitsL f) zs zs.length) W hW => readBits_any RT W hW (by
    have e : RT.data.toList.length = RT.size := by simp
    rw [← e, hRT, hrl]; omega) (by rw [hRT]; exact hrow)
  have a4' : ∀ (RT : ByteArray), RT.data.toList = turnK (bitsL f) zs zs.length → ∀ W, W.cell? ⟨5, 1, none⟩ = some (.int .u8 1) → Calls Tryz.prog 20 #[.string RT] W fun e w' => e = .returned (.tuple #[frameV 0 false false false 0 none 0 0, .int .i64 0, .int .i64 (rdE (turnK (bitsL f) zs zs.length)).fl]) ∧ Below W.heap.size W w' := fun RT hRT W hW => (a4 RT hRT W hW).mono (fun _ _ h => by
    rw [hRT] at h
    rw [hsf] at hr ⊢
    exact ⟨h.1 hr, h.2.2⟩)
  have a5 := fun W => sameFrame_true ⟨0, false, false, false, 0, []⟩ none none 0 0 0 0 W (nilBytesN W) (nilBytesN W)
  simp only at a5
  generalize (rdE (turnK (bitsL f) zs zs.length)).fl = ce at *
  have HA6 := Hid.mk a4'
  have HA7 := Hid.mk a5
  unfold frameV at HA6 HA7
  clear a4 a4' a5 hrow hrl hsf hsu hr
  have HA1 := Hid.mk a1
  have HA2 := Hid.mk (fun W hW => hCF.fr f a len cap W hW)
  have HA3 := Hid.mk (fun W h1 h2 => wired_any W h1 h2)
  have HA4 := Hid.mk (fun W => noFrameN W)
  have HB0 := Hid.mk hB
  have HK0 := Hid.mk hK
  have HY0 := Hid.mk hY
  have HS := Hid.mk hS
  have HR := Hid.mk hR
  have HD := Hid.mk hD
  unfold frameC at HA1 HB0 HK0 HY0
  unfold frameV at HA1 HA2 ⊢
  clear a1 hB hK hY hS hR hby hD hCF
  rw [hE] at HA2
  have hn2 : (n : Int) ≤ 1000 := by omega
  obtain ⟨BT, hBT⟩ : ∃ BT : ByteArray, BT = ⟨(bitsL f).toArray⟩ := ⟨_, rfl⟩
  rw [← hBT] at HA5
  have HBT := Hid.mk (show BT.data.toList = bitsL f by rw [hBT])
  clear hE hz hin hl1 hl2 hBT
  go_enter Tryz.func6, Tryz.ntmps6
  obtain ⟨m0, m1, m2, m3, m4, m5⟩ := HK0.out
  go_wp2_with fail
  refine HA1.out.mono ?_
  rintro e w1 ⟨rfl, hb1⟩
  have hbx : Below w1.heap.size w1 (w1.alloc (.cells #[.int .i64 0, .bool false, .bool false, .bool false, .int .i64 0, .slice none 0 0] 24)) := (Below.refl _ _).alloc (Nat.le_refl _) _
  have hb12 := bl2 hb1 hbx
  have HG2 := Hid.mk (FrAt.box w1 0 false false false 0 none 0 0)
  unfold frameC at HG2
  have HB2 := Hid.mk (bl2 HB0.out hb12)
  have HK2 := Hid.mk (HK0.out.kept hb12)
  have HY2 := Hid.mk (isBytes_below HY0.out hb12)
  obtain ⟨k0, k1, k2, k3, k4, k5⟩ := HK2.out
  clear hb1 hbx hb12 HB0 HK0 HY0 m0 m1 m2 m3 m4 m5
  go_wp2_with fail
  refine (HA2.out _ HY2.out).mono ?_
  rintro e w3 ⟨rfl, hb3⟩
  have HB3 := Hid.mk (bl2 HB2.out hb3)
  have HG3 := Hid.mk (HG2.out.kept hb3)
  have HK3 := Hid.mk (HK2.out.kept hb3)
  have HY3 := Hid.mk (isBytes_below HY2.out hb3)
  clear hb3 HB2 HG2 HK2 HY2 k0 k1 k2 k3 k4 k5
  obtain ⟨k0, k1, k2, k3, k4, k5⟩ := HK3.out
  go_wp2_with fail
  refine (HA5.out _ (cell_kept HB3.out HD.out) HY3.out).mono ?_
  rintro e w4 ⟨rfl, hb4⟩
  have HB4 := Hid.mk (bl2 HB3.out hb4)
  have HG4 := Hid.mk (HG3.out.kept hb4)
  clear hb4 HB3 HG3 HK3 HY3 k0 k1 k2 k3 k4 k5
  go_wp2_with fail
  go_loopw [7, 8, 35] (fun b r i wr => ∃ k : Nat, k ≤ n ∧ i = .int .i64 k ∧ b = .int .i64 0 ∧ (∃ RT : ByteArray, r = .string RT ∧ Hid (RT.data.toList = turnK (bitsL f) zs k)) ∧ Hid (inK (bitsL f).length zs k) ∧ Hid (Below w4.heap.size w4 wr)) (fun _ _ i _ => n - (intOf i).toNat)
  case atStart => exact ⟨0, Nat.zero_le _, rfl, rfl, ⟨BT, rfl, HBT⟩, Hid.mk (fun j hj => absurd hj (Nat.not_lt_zero _)), Hid.mk (Below.refl _ _)⟩
  case round =>
    obtain ⟨k, hk, rfl, rfl, ⟨RT, rfl, HRT⟩, HI, HB⟩ := hrel
    have HBw := Hid.mk (bl2 HB4.out HB.out)
    have HRS := Hid.mk (show RT.size = (bitsL f).length by rw [ba_size HRT.out, turnK_len])
    have hR9 : RT.size ≤ 900 := by rw [HRS.out]; exact HLEN.out
    by_cases hlt : k < n
    · have hlt' : (k : Int) < (n : Int) := by omega
      have hkl : k < zs.length := by rw [HN.out.1]; exact hlt
      cases p with
      | none => exact absurd (HN.out.2.1 rfl) (by omega)
      | some x =>
        have cz := cell_kept HBw.out (HN.out.2.2 x rfl k hlt)
        by_cases hzi : 0 ≤ zs.getD k 0 ∧ zs.getD k 0 < ((bitsL f).length : Int)
        · obtain ⟨i, hi⟩ : ∃ i : Nat, zs.getD k 0 = (i : Int) := ⟨(zs.getD k 0).toNat, by omega⟩
          have HIn := Hid.mk (inK_next HI.out hzi.1 hzi.2)
          rw [hi] at cz hzi
          have hiR : i < RT.size := by rw [HRS.out]; omega
          have hiR' : (i : Int) < (RT.size : Int) := by omega
          have hch := at_getD RT i hiR
          obtain ⟨ch, hchE⟩ : ∃ ch, ch = RT[i] := ⟨_, rfl⟩
          have htn : RT.data.toList.take i ++ otb ch :: RT.data.toList.drop (i + 1) = turnK (bitsL f) zs (k + 1) := by
            rw [turnK, hi, Int.toNat_natCast, ← HRT.out, set_parts _ _ _ (by simpa using hiR), hchE, hch]
          have HTN := Hid.mk htn
          have hsl1 : ∀ W, (Instr.slice 9 (.string RT) none (some (.int .i64 (i : Int))) none).run Tryz.prog W = .ok (.string (RT.extract 0 i)) W := by
            intro W
            rw [run_slice_string_h W _ RT Tryz.underlying9 .i64 _ (by omega) (by omega), Int.toNat_natCast]
          have hsl2 : ∀ W, (Instr.slice 9 (.string RT) (some (.int .i64 (IntKind.i64.wrap ((i : Int) + 1)))) none none).run Tryz.prog W = .ok (.string (RT.extract (i + 1) RT.size)) W := by
            intro W
            rw [show IntKind.i64.wrap ((i : Int) + 1) = ((i + 1 : Nat) : Int) by rw [IntKind.wrap_i64]; omega]
            rw [run_slice_string_l W _ RT Tryz.underlying9 .i64 _ (by omega) (by omega), Int.toNat_natCast]
          have hcv := convert_lit (wr.alloc (.cells #[.int .u8 (otb ch).toNat] 5)).drew wr.heap.size (otb ch) (heap_alloc_new wr _)
          have HX1 := Hid.mk (show (RT.extract 0 i).data.toList = RT.data.toList.take i by
            have := extract_list RT 0 i
            rw [Nat.zero_add] at this
            rw [this, List.drop_zero])
          have HX2 := Hid.mk (show (RT.extract (i + 1) RT.size).data.toList = RT.data.toList.drop (i + 1) by
            have := extract_list RT (i + 1) (RT.size - (i + 1))
            rw [show i + 1 + (RT.size - (i + 1)) = RT.size by omega] at this
            rw [this]
            exact List.take_of_length_le (by simp))
          have hs1 : (RT.extract 0 i).size ≤ 900 := by rw [ByteArray.size_extract]; omega
          have hs2 : (RT.extract (i + 1) RT.size).size ≤ 900 := by rw [ByteArray.size_extract]; omega
          generalize RT.extract 0 i = E1 at *
          generalize RT.extract (i + 1) RT.size = E2 at *
          have HB5 := Hid.mk (show Below w4.heap.size w4 ((wr.alloc (.cells #[.int .u8 (otb ch).toNat] 5)).drew) from (HB.out.alloc HB.out.size _).drew)
          have HCH := Hid.mk hchE
          clear htn hzi hi hkl hch hchE
          go_wp2_with fail
          go_region_with (go_at_call 27; rw [← HCH.out]; refine (otherR_any ch _).mono ?_; rintro e w2 ⟨rfl, hw2⟩; subst hw2)
          all_goals focus
            generalize hX : E1 ++ ⟨#[otb ch]⟩ ++ E2 = X
            have HXl := Hid.mk (show X.data.toList = turnK (bitsL f) zs (k + 1) by
              rw [← hX, ba_cat, ba_cat, HX1.out, HX2.out, ← HTN.out]; simp)
            clear hX hsl1 hsl2 hcv
            go_wp2_with fail
            go_roundw
            case rel => exact ⟨k + 1, by omega, by go_num, rfl, ⟨X, rfl, HXl⟩, HIn, HB5⟩
            case measure => simp [intOf]; omega
        · exact absurd HIN.out (by rw [inAll_not hkl hzi]; decide)
    · have e : k = zs.length := by have := HN.out.1; omega
      have HG5 := Hid.mk (HG4.out.kept HB.out)
      have HT := HRT.out
      rw [e] at HT
      have HA8 := Hid.mk (HA6.out RT HT)
      clear HT HI HRT
      go_wp2_with fail
      refine (HA3.out _ (HS.out.kept HBw.out) (HR.out.kept HBw.out)).mono ?_
      rintro e w6 ⟨rfl, hb6⟩
      have HB6 := Hid.mk (bl2 HBw.out hb6)
      have HG6 := Hid.mk (HG5.out.kept hb6)
      clear hb6
      go_wp2_with fail
      refine (HA8.out _ (cell_kept HB6.out HD.out)).mono ?_
      rintro e w7 ⟨rfl, hb7⟩
      have hbx : Below w7.heap.size w7 (w7.alloc (.cells #[.int .i64 0, .bool false, .bool false, .bool false, .int .i64 0, .slice none 0 0] 24)) := (Below.refl _ _).alloc (Nat.le_refl _) _
      have hb78 := bl2 hb7 hbx
      obtain ⟨n0, n1, n2, n3, n4, n5⟩ := HG6.out.kept hb78
      obtain ⟨r0, r1, r2, r3, r4, r5⟩ := FrAt.box w7 0 false false false 0 none 0 0
      unfold frameC at r0 r1 r2 r3 r4 r5
      have HB8 := Hid.mk (bl2 HB6.out hb78)
      clear hb7 hbx hb78
      go_wp2_with fail
      refine (HA7.out _).mono ?_
      rintro e w9 ⟨rfl, hb9⟩
      have HB9 := Hid.mk (bl2 HB8.out hb9)
      clear hb9 n0 n1 n2 n3 n4 n5 r0 r1 r2 r3 r4 r5
      go_wp2_with fail
      go_ret
      exact ⟨rfl, HB9.out⟩
set_option maxHeartbeats 16000000 in
set_option maxRecDepth 100000 in
theorem wnoise_ok (hCF : CheckF) (f : Fr) (a : Option Addr) (len cap : Nat) (p : Option Addr) (n c : Nat) (w : World) (hS : SizesAt w) (hR : RulesAt w) (hD : w.cell? ⟨5, 1, none⟩ = some (.int .u8 1)) (hby : IsBytes w a len cap f.dt) (zs : List Int) (hE : frE f = 0) (hn : n ≤ 1000) (hz : NumsA w p n zs) (hin : inAll (bitsL f).length zs = true) (hr : (rdE (turnK (bitsL f) zs zs.length)).fl = 0) :
    Calls Tryz.prog 6 #[frameV f.id f.lo f.fa f.re f.sz a len cap, .slice p n c] w fun e w' => e = .returned (.bool true) ∧ Below w.heap.size w w' := by
  have hB := below_box w f.id f.lo f.fa f.re f.sz a len cap
  have hK := FrAt.box w f.id f.lo f.fa f.re f.sz a len cap
  have hY := isBytes_below hby hB
  have a1 := noise_ok f a len cap p n c zs _ (hS.kept hB) (hR.kept hB) hY hE hn (hz.kept hB) hin hr
  have hl1 := bitsL_len f
  have hl2 := preL_len f hE
  have HN := Hid.mk hz
  have HIN := Hid.mk hin
  have HLEN := Hid.mk (show (bitsL f).length ≤ 900 by omega)
  have HA5 := Hid.mk (fun W hW hB => bitsOf_any f a len cap W hW hE hB)
  unfold frameV at HA5
  have hrow := turnK_row (bitsL f) zs (bitsL_row f) zs.length
  have hrl := turnK_len (bitsL f) zs zs.length
  obtain ⟨hsf, hsu⟩ := read_same _ hrow (rdUN _ hrow)
  have a4 := fun (RT : ByteArray) (hRT : RT.data.toList = turnK (bitsL f) zs zs.length) W hW => readBits_any RT W hW (by
    have e : RT.data.toList.length = RT.size := by simp
    rw [← e, hRT, hrl]; omega) (by rw [hRT]; exact hrow)
  obtain ⟨hu, hF⟩ := hsu hr
  have a4' : ∀ (RT : ByteArray), RT.data.toList = turnK (bitsL f) zs zs.length → ∀ W, W.cell? ⟨5, 1, none⟩ = some (.int .u8 1) → Calls Tryz.prog 20 #[.string RT] W fun e w' => ∃ a len cap, e = .returned (.tuple #[frameV (rdF (turnK (bitsL f) zs zs.length)).id (rdF (turnK (bitsL f) zs zs.length)).lo (rdF (turnK (bitsL f) zs zs.length)).fa (rdF (turnK (bitsL f) zs zs.length)).re (rdF (turnK (bitsL f) zs zs.length)).sz a len cap, .int .i64 (rdE (turnK (bitsL f) zs zs.length)).u, .int .i64 0]) ∧ IsBytes w' a len cap (rdF (turnK (bitsL f) zs zs.length)).dt ∧ Below W.heap.size W w' := fun RT hRT W hW => (a4 RT hRT W hW).mono (fun _ _ h => by
    rw [hRT] at h
    obtain ⟨a, len, cap, h1, h2⟩ := h.2.1 (by rw [← hsf]; exact hr)
    refine ⟨a, len, cap, ?_, ?_, h.2.2⟩
    · rw [hF, hu]; exact h1
    · rw [hF]; exact h2)
  have a5 := fun a1 n1 c1 a2 n2 c2 W h1 h2 => sameFrame_true (rdF (turnK (bitsL f) zs zs.length)) a1 a2 n1 c1 n2 c2 W h1 h2
  generalize rdF (turnK (bitsL f) zs zs.length) = G at *
  generalize ((rdE (turnK (bitsL f) zs zs.length)).u : Int) = cu at *
  obtain ⟨Gid, Glo, Gfa, Gre, Gsz, Gdt⟩ := G
  simp only at a1 a4' a5
  have HA6 := Hid.mk a4'
  have HA7 := Hid.mk a5
  unfold frameV at HA6 HA7
  clear a4 a4' a5 hrow hrl hsf hsu hr
  clear hu hF
  have HA1 := Hid.mk a1
  have HA2 := Hid.mk (fun W hW => hCF.fr f a len cap W hW)
  have HA3 := Hid.mk (fun W h1 h2 => wired_any W h1 h2)
  have HA4 := Hid.mk (fun W => noFrameN W)
  have HB0 := Hid.mk hB
  have HK0 := Hid.mk hK
  have HY0 := Hid.mk hY
  have HS := Hid.mk hS
  have HR := Hid.mk hR
  have HD := Hid.mk hD
  unfold frameC at HA1 HB0 HK0 HY0
  unfold frameV at HA1 HA2 ⊢
  clear a1 hB hK hY hS hR hby hD hCF
  rw [hE] at HA2
  have hn2 : (n : Int) ≤ 1000 := by omega
  obtain ⟨BT, hBT⟩ : ∃ BT : ByteArray, BT = ⟨(bitsL f).toArray⟩ := ⟨_, rfl⟩
  rw [← hBT] at HA5
  have HBT := Hid.mk (show BT.data.toList = bitsL f by rw [hBT])
  clear hE hz hin hl1 hl2 hBT
  go_enter Tryz.func6, Tryz.ntmps6
  obtain ⟨m0, m1, m2, m3, m4, m5⟩ := HK0.out
  go_wp2_with fail
  refine HA1.out.mono ?_
  rintro e w1 ⟨ga, gn, gc, rfl, hyg, hb1⟩
  have hbx : Below w1.heap.size w1 (w1.alloc (.cells #[.int .i64 Gid, .bool Glo, .bool Gfa, .bool Gre, .int .i64 Gsz, .slice ga gn gc] 24)) := (Below.refl _ _).alloc (Nat.le_refl _) _
  have hb12 := bl2 hb1 hbx
  have HG2 := Hid.mk (FrAt.box w1 Gid Glo Gfa Gre Gsz ga gn gc)
  unfold frameC at HG2
  have HB2 := Hid.mk (bl2 HB0.out hb12)
  have HK2 := Hid.mk (HK0.out.kept hb12)
  have HY2 := Hid.mk (isBytes_below HY0.out hb12)
  have HYG2 := Hid.mk (isBytes_below hyg hbx)
  clear hyg
  obtain ⟨k0, k1, k2, k3, k4, k5⟩ := HK2.out
  clear hb1 hbx hb12 HB0 HK0 HY0 m0 m1 m2 m3 m4 m5
  go_wp2_with fail
  refine (HA2.out _ HY2.out).mono ?_
  rintro e w3 ⟨rfl, hb3⟩
  have HB3 := Hid.mk (bl2 HB2.out hb3)
  have HG3 := Hid.mk (HG2.out.kept hb3)
  have HK3 := Hid.mk (HK2.out.kept hb3)
  have HY3 := Hid.mk (isBytes_below HY2.out hb3)
  have HYG3 := Hid.mk (isBytes_below HYG2.out hb3)
  clear HYG2
  clear hb3 HB2 HG2 HK2 HY2 k0 k1 k2 k3 k4 k5
  obtain ⟨k0, k1, k2, k3, k4, k5⟩ := HK3.out
  go_wp2_with fail
  refine (HA5.out _ (cell_kept HB3.out HD.out) HY3.out).mono ?_
  rintro e w4 ⟨rfl, hb4⟩
  have HB4 := Hid.mk (bl2 HB3.out hb4)
  have HG4 := Hid.mk (HG3.out.kept hb4)
  have HYG4 := Hid.mk (isBytes_below HYG3.out hb4)
  clear HYG3
  clear hb4 HB3 HG3 HK3 HY3 k0 k1 k2 k3 k4 k5
  go_wp2_with fail
  go_loopw [7, 8, 35] (fun b r i wr => ∃ k : Nat, k ≤ n ∧ i = .int .i64 k ∧ b = .int .i64 0 ∧ (∃ RT : ByteArray, r = .string RT ∧ Hid (RT.data.toList = turnK (bitsL f) zs k)) ∧ Hid (inK (bitsL f).length zs k) ∧ Hid (Below w4.heap.size w4 wr)) (fun _ _ i _ => n - (intOf i).toNat)
  case atStart => exact ⟨0, Nat.zero_le _, rfl, rfl, ⟨BT, rfl, HBT⟩, Hid.mk (fun j hj => absurd hj (Nat.not_lt_zero _)), Hid.mk (Below.refl _ _)⟩
  case round =>
    obtain ⟨k, hk, rfl, rfl, ⟨RT, rfl, HRT⟩, HI, HB⟩ := hrel
    have HBw := Hid.mk (bl2 HB4.out HB.out)
    have HRS := Hid.mk (show RT.size = (bitsL f).length by rw [ba_size HRT.out, turnK_len])
    have hR9 : RT.size ≤ 900 := by rw [HRS.out]; exact HLEN.out
    by_cases hlt : k < n
    · have hlt' : (k : Int) < (n : Int) := by omega
      have hkl : k < zs.length := by rw [HN.out.1]; exact hlt
      cases p with
      | none => exact absurd (HN.out.2.1 rfl) (by omega)
      | some x =>
        have cz := cell_kept HBw.out (HN.out.2.2 x rfl k hlt)
        by_cases hzi : 0 ≤ zs.getD k 0 ∧ zs.getD k 0 < ((bitsL f).length : Int)
        · obtain ⟨i, hi⟩ : ∃ i : Nat, zs.getD k 0 = (i : Int) := ⟨(zs.getD k 0).toNat, by omega⟩
          have HIn := Hid.mk (inK_next HI.out hzi.1 hzi.2)
          rw [hi] at cz hzi
          have hiR : i < RT.size := by rw [HRS.out]; omega
          have hiR' : (i : Int) < (RT.size : Int) := by omega
          have hch := at_getD RT i hiR
          obtain ⟨ch, hchE⟩ : ∃ ch, ch = RT[i] := ⟨_, rfl⟩
          have htn : RT.data.toList.take i ++ otb ch :: RT.data.toList.drop (i + 1) = turnK (bitsL f) zs (k + 1) := by
            rw [turnK, hi, Int.toNat_natCast, ← HRT.out, set_parts _ _ _ (by simpa using hiR), hchE, hch]
          have HTN := Hid.mk htn
          have hsl1 : ∀ W, (Instr.slice 9 (.string RT) none (some (.int .i64 (i : Int))) none).run Tryz.prog W = .ok (.string (RT.extract 0 i)) W := by
            intro W
            rw [run_slice_string_h W _ RT Tryz.underlying9 .i64 _ (by omega) (by omega), Int.toNat_natCast]
          have hsl2 : ∀ W, (Instr.slice 9 (.string RT) (some (.int .i64 (IntKind.i64.wrap ((i : Int) + 1)))) none none).run Tryz.prog W = .ok (.string (RT.extract (i + 1) RT.size)) W := by
            intro W
            rw [show IntKind.i64.wrap ((i : Int) + 1) = ((i + 1 : Nat) : Int) by rw [IntKind.wrap_i64]; omega]
            rw [run_slice_string_l W _ RT Tryz.underlying9 .i64 _ (by omega) (by omega), Int.toNat_natCast]
          have hcv := convert_lit (wr.alloc (.cells #[.int .u8 (otb ch).toNat] 5)).drew wr.heap.size (otb ch) (heap_alloc_new wr _)
          have HX1 := Hid.mk (show (RT.extract 0 i).data.toList = RT.data.toList.take i by
            have := extract_list RT 0 i
            rw [Nat.zero_add] at this
            rw [this, List.drop_zero])
          have HX2 := Hid.mk (show (RT.extract (i + 1) RT.size).data.toList = RT.data.toList.drop (i + 1) by
            have := extract_list RT (i + 1) (RT.size - (i + 1))
            rw [show i + 1 + (RT.size - (i + 1)) = RT.size by omega] at this
            rw [this]
            exact List.take_of_length_le (by simp))
          have hs1 : (RT.extract 0 i).size ≤ 900 := by rw [ByteArray.size_extract]; omega
          have hs2 : (RT.extract (i + 1) RT.size).size ≤ 900 := by rw [ByteArray.size_extract]; omega
          generalize RT.extract 0 i = E1 at *
          generalize RT.extract (i + 1) RT.size = E2 at *
          have HB5 := Hid.mk (show Below w4.heap.size w4 ((wr.alloc (.cells #[.int .u8 (otb ch).toNat] 5)).drew) from (HB.out.alloc HB.out.size _).drew)
          have HCH := Hid.mk hchE
          clear htn hzi hi hkl hch hchE
          go_wp2_with fail
          go_region_with (go_at_call 27; rw [← HCH.out]; refine (otherR_any ch _).mono ?_; rintro e w2 ⟨rfl, hw2⟩; subst hw2)
          all_goals focus
            generalize hX : E1 ++ ⟨#[otb ch]⟩ ++ E2 = X
            have HXl := Hid.mk (show X.data.toList = turnK (bitsL f) zs (k + 1) by
              rw [← hX, ba_cat, ba_cat, HX1.out, HX2.out, ← HTN.out]; simp)
            clear hX hsl1 hsl2 hcv
            go_wp2_with fail
            go_roundw
            case rel => exact ⟨k + 1, by omega, by go_num, rfl, ⟨X, rfl, HXl⟩, HIn, HB5⟩
            case measure => simp [intOf]; omega
        · exact absurd HIN.out (by rw [inAll_not hkl hzi]; decide)
    · have e : k = zs.length := by have := HN.out.1; omega
      have HG5 := Hid.mk (HG4.out.kept HB.out)
      have HT := HRT.out
      rw [e] at HT
      have HA8 := Hid.mk (HA6.out RT HT)
      clear HT HI HRT
      have HYG5 := Hid.mk (isBytes_below HYG4.out HB.out)
      go_wp2_with fail
      refine (HA3.out _ (HS.out.kept HBw.out) (HR.out.kept HBw.out)).mono ?_
      rintro e w6 ⟨rfl, hb6⟩
      have HB6 := Hid.mk (bl2 HBw.out hb6)
      have HG6 := Hid.mk (HG5.out.kept hb6)
      have HYG6 := Hid.mk (isBytes_below HYG5.out hb6)
      clear hb6
      go_wp2_with fail
      refine (HA8.out _ (cell_kept HB6.out HD.out)).mono ?_
      rintro e w7 ⟨ha, hn_, hc, rfl, hyh, hb7⟩
      have hbx : Below w7.heap.size w7 (w7.alloc (.cells #[.int .i64 Gid, .bool Glo, .bool Gfa, .bool Gre, .int .i64 Gsz, .slice ha hn_ hc] 24)) := (Below.refl _ _).alloc (Nat.le_refl _) _
      have hb78 := bl2 hb7 hbx
      obtain ⟨n0, n1, n2, n3, n4, n5⟩ := HG6.out.kept hb78
      obtain ⟨r0, r1, r2, r3, r4, r5⟩ := FrAt.box w7 Gid Glo Gfa Gre Gsz ha hn_ hc
      unfold frameC at r0 r1 r2 r3 r4 r5
      have HB8 := Hid.mk (bl2 HB6.out hb78)
      have HYG8 := Hid.mk (isBytes_below HYG6.out hb78)
      have HYH8 := Hid.mk (isBytes_below hyh hbx)
      clear hyh
      clear hb7 hbx hb78
      go_wp2_with fail
      refine (HA7.out _ _ _ _ _ _ _ HYG8.out HYH8.out).mono ?_
      rintro e w9 ⟨rfl, hb9⟩
      have HB9 := Hid.mk (bl2 HB8.out hb9)
      clear hb9 n0 n1 n2 n3 n4 n5 r0 r1 r2 r3 r4 r5
      go_wp2_with fail
      go_ret
      exact ⟨rfl, HB9.out⟩
end Bw
end Go.Proofs.YtemohjamcdkcmaaGreatDoor
namespace Go.Proofs.YtemohjamcdkcmaaGreatDoor
open Go.ChangeShapes Go.WideShapes Go.ChangeAt Go.RowKit
namespace wireNoise
open Bw Bm
theorem numsA_of {w : World} {a : Option Addr} {n c : Nat} {zs : List Int} (h : IsRow .i64 w a n c zs) : NumsA w a n (zs.take n) := by
  rcases h with ⟨rfl, rfl, rfl, rfl⟩ | ⟨x, rfl, h1, h2, h3, h4, h5⟩
  · exact ⟨rfl, fun _ => rfl, fun x hx => by cases hx⟩
  · refine ⟨by rw [List.length_take]; omega, fun h => (by cases h), fun y hy i hi => ?_⟩
    cases hy
    rw [h4 i (by omega)]
    simp [List.getD, hi]
theorem walk (id : Int) (lo fa re : Bool) (sz : Int) (a : Option Addr) (len cap : Nat) (ys : List Int) (p : Option Addr) (n c : Nat) (zs : List Int) (w : World) (_ : (Lit.int .i64 id).wf = true) (_ : (Lit.int .i64 sz).wf = true) (hy : IsRow .u8 w a len cap ys) (hz : IsRow .i64 w p n c zs) (hL : laidMet Tryz.prog Rows.wireNoiseRow.laid w) :
    Calls Tryz.prog 6 #[frameV id lo fa re sz a len cap, .slice p n c] w fun e w' => e = .returned (.bool true) ∧ Below w.heap.size w w' := by
  have hS := sizes_of hL (by simp [Rows.wireNoiseRow])
  have hR := rules_of hL (by simp [Rows.wireNoiseRow])
  have hD := bruijn_of hL (by simp [Rows.wireNoiseRow])
  have hCF : CheckF := fun id lo fa re sz a len cap w h => checkFrame_any id lo fa re sz a len cap w h
  obtain ⟨l, hl⟩ := isBytes_of_row hy
  have hN := numsA_of hz
  generalize zs.take n = qs at hN
  by_cases hE : frE ⟨id, lo, fa, re, sz, l⟩ = 0
  · by_cases hn : 1000 < n
    · exact wnoise_many hCF ⟨id, lo, fa, re, sz, l⟩ a len cap p n c w hS hR hD hl hE hn
    · rcases Bool.eq_false_or_eq_true (inAll (bitsL ⟨id, lo, fa, re, sz, l⟩).length qs) with hin | hin
      · by_cases hr : (rdE (turnK (bitsL ⟨id, lo, fa, re, sz, l⟩) qs qs.length)).fl = 0
        · exact wnoise_ok hCF ⟨id, lo, fa, re, sz, l⟩ a len cap p n c w hS hR hD hl qs hE (by omega) hN hin hr
        · exact wnoise_no hCF ⟨id, lo, fa, re, sz, l⟩ a len cap p n c w hS hR hD hl qs hE (by omega) hN hin hr
      · exact wnoise_out hCF ⟨id, lo, fa, re, sz, l⟩ a len cap p n c w hS hR hD hl qs hE (by omega) hN hin
  · exact wnoise_bad hCF ⟨id, lo, fa, re, sz, l⟩ a len cap p n c w hS hR hD hl hE
end wireNoise
end Go.Proofs.YtemohjamcdkcmaaGreatDoor
