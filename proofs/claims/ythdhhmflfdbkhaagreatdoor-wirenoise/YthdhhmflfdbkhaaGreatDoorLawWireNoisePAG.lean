/- Joined out of our texts: WnlawB, ReadRef, ReadSame, ReadSame2, ReadSame3, ReadInvJ, RbMath, RefTake, RefRead1, RefRead2. -/
import Derived.Test.YthdhhmflfdbkhaaGreatDoorLawWireNoisePAE
import Derived.Test.YthdhhmflfdbkhaaGreatDoorLawWireNoisePAF
import Derived.Test.YthdhhmflfdbkhaaGreatDoorLawWireNoiseRAV
import Derived.Test.YthdhhmflfdbkhaaGreatDoorLawWireNoiseRAS
import Derived.Test.YthdhhmflfdbkhaaGreatDoorLawWireNoisePAB
import Derived.Test.YthdhhmflfdbkhaaGreatDoorLawWireNoisePAD
import Derived.Test.YthdhhmflfdbkhaaGreatDoorLawWireNoisePAC
/- The law WireNoise: a place that is not there. -/
namespace Go.Proofs.YthdhhmflfdbkhaaGreatDoor
open Go.ChangeShapes Go.WideShapes Go.ChangeAt Go.RowKit
namespace Bw
open Bm Cm
set_option maxHeartbeats 16000000 in
set_option maxRecDepth 100000 in
theorem wnoise_out (hCF : CheckF) (f : Fr) (a : Option Addr) (len cap : Nat) (p : Option Addr) (n c : Nat) (w : World) (hS : SizesAt w) (hR : RulesAt w) (hD : w.cell? ⟨5, 1, none⟩ = some (.int .u8 1)) (hby : IsBytes w a len cap f.dt) (zs : List Int) (hE : frE f = 0) (hn : n ≤ 1000) (hz : NumsA w p n zs) (hin : inAll (bitsL f).length zs = false) :
    Calls Tryz.prog 5 #[frameV f.id f.lo f.fa f.re f.sz a len cap, .slice p n c] w fun e w' => e = .returned (.bool true) ∧ Below w.heap.size w w' := by
  have hB := below_box w f.id f.lo f.fa f.re f.sz a len cap
  have hK := FrAt.box w f.id f.lo f.fa f.re f.sz a len cap
  have hY := isBytes_below hby hB
  have a1 := noise_out f a len cap p n c zs _ (hS.kept hB) (hR.kept hB) hY hE hn (hz.kept hB) hin
  have hl1 := bitsL_len f
  have hl2 := preL_len f hE
  have HN := Hid.mk hz
  have HIN := Hid.mk hin
  have HLEN := Hid.mk (show (bitsL f).length ≤ 900 by omega)
  have HA5 := Hid.mk (fun W hW hB => bitsOf_any f a len cap W hW hE hB)
  unfold frameV at HA5
  have HA1 := Hid.mk a1
  have HA2 := Hid.mk (fun W hW => hCF.fr f a len cap W hW)
  have HA3 := Hid.mk (fun W h1 h2 => wired_any W h1 h2)
  have HA4 := Hid.mk (fun W => noFrameN W)
  have HB0 := Hid.mk hB
  have HK0 := Hid.mk hK
  have HY0 := Hid.mk hY
  have HS := Hid.mk hS
  have HR := Hid.mk hR
  have HD := Hid.mk hD
  unfold frameC at HA1 HB0 HK0 HY0
  unfold frameV at HA1 HA2 ⊢
  clear a1 hB hK hY hS hR hby hD hCF
  rw [hE] at HA2
  have hn2 : (n : Int) ≤ 1000 := by omega
  obtain ⟨BT, hBT⟩ : ∃ BT : ByteArray, BT = ⟨(bitsL f).toArray⟩ := ⟨_, rfl⟩
  rw [← hBT] at HA5
  have HBT := Hid.mk (show BT.data.toList = bitsL f by rw [hBT])
  clear hE hz hin hl1 hl2 hBT
  go_enter Tryz.func5, Tryz.ntmps5
  obtain ⟨m0, m1, m2, m3, m4, m5⟩ := HK0.out
  go_wp2_with fail
  refine HA1.out.mono ?_
  rintro e w1 ⟨rfl, hb1⟩
  have hbx : Below w1.heap.size w1 (w1.alloc (.cells #[.int .i64 0, .bool false, .bool false, .bool false, .int .i64 0, .slice none 0 0] 24)) := (Below.refl _ _).alloc (Nat.le_refl _) _
  have hb12 := bl2 hb1 hbx
  have HG2 := Hid.mk (FrAt.box w1 0 false false false 0 none 0 0)
  unfold frameC at HG2
  have HB2 := Hid.mk (bl2 HB0.out hb12)
  have HK2 := Hid.mk (HK0.out.kept hb12)
  have HY2 := Hid.mk (isBytes_below HY0.out hb12)
  obtain ⟨k0, k1, k2, k3, k4, k5⟩ := HK2.out
  clear hb1 hbx hb12 HB0 HK0 HY0 m0 m1 m2 m3 m4 m5
  go_wp2_with fail
  refine (HA2.out _ HY2.out).mono ?_
  rintro e w3 ⟨rfl, hb3⟩
  have HB3 := Hid.mk (bl2 HB2.out hb3)
  have HG3 := Hid.mk (HG2.out.kept hb3)
  have HK3 := Hid.mk (HK2.out.kept hb3)
  have HY3 := Hid.mk (isBytes_below HY2.out hb3)
  clear hb3 HB2 HG2 HK2 HY2 k0 k1 k2 k3 k4 k5
  obtain ⟨k0, k1, k2, k3, k4, k5⟩ := HK3.out
  go_wp2_with fail
  refine (HA5.out _ (cell_kept HB3.out HD.out) HY3.out).mono ?_
  rintro e w4 ⟨rfl, hb4⟩
  have HB4 := Hid.mk (bl2 HB3.out hb4)
  have HG4 := Hid.mk (HG3.out.kept hb4)
  clear hb4 HB3 HG3 HK3 HY3 k0 k1 k2 k3 k4 k5
  go_wp2_with fail
  go_loopw [7, 8, 35] (fun b r i wr => ∃ k : Nat, k ≤ n ∧ i = .int .i64 k ∧ b = .int .i64 0 ∧ (∃ RT : ByteArray, r = .string RT ∧ Hid (RT.data.toList = turnK (bitsL f) zs k)) ∧ Hid (inK (bitsL f).length zs k) ∧ Hid (Below w4.heap.size w4 wr)) (fun _ _ i _ => n - (intOf i).toNat)
  case atStart => exact ⟨0, Nat.zero_le _, rfl, rfl, ⟨BT, rfl, HBT⟩, Hid.mk (fun j hj => absurd hj (Nat.not_lt_zero _)), Hid.mk (Below.refl _ _)⟩
  case round =>
    obtain ⟨k, hk, rfl, rfl, ⟨RT, rfl, HRT⟩, HI, HB⟩ := hrel
    have HBw := Hid.mk (bl2 HB4.out HB.out)
    have HRS := Hid.mk (show RT.size = (bitsL f).length by rw [ba_size HRT.out, turnK_len])
    have hR9 : RT.size ≤ 900 := by rw [HRS.out]; exact HLEN.out
    by_cases hlt : k < n
    · have hlt' : (k : Int) < (n : Int) := by omega
      have hkl : k < zs.length := by rw [HN.out.1]; exact hlt
      cases p with
      | none => exact absurd (HN.out.2.1 rfl) (by omega)
      | some x =>
        have cz := cell_kept HBw.out (HN.out.2.2 x rfl k hlt)
        by_cases hzi : 0 ≤ zs.getD k 0 ∧ zs.getD k 0 < ((bitsL f).length : Int)
        · obtain ⟨i, hi⟩ : ∃ i : Nat, zs.getD k 0 = (i : Int) := ⟨(zs.getD k 0).toNat, by omega⟩
          have HIn := Hid.mk (inK_next HI.out hzi.1 hzi.2)
          rw [hi] at cz hzi
          have hiR : i < RT.size := by rw [HRS.out]; omega
          have hiR' : (i : Int) < (RT.size : Int) := by omega
          have hch := at_getD RT i hiR
          obtain ⟨ch, hchE⟩ : ∃ ch, ch = RT[i] := ⟨_, rfl⟩
          have htn : RT.data.toList.take i ++ otb ch :: RT.data.toList.drop (i + 1) = turnK (bitsL f) zs (k + 1) := by
            rw [turnK, hi, Int.toNat_natCast, ← HRT.out, set_parts _ _ _ (by simpa using hiR), hchE, hch]
          have HTN := Hid.mk htn
          have hsl1 : ∀ W, (Instr.slice 9 (.string RT) none (some (.int .i64 (i : Int))) none).run Tryz.prog W = .ok (.string (RT.extract 0 i)) W := by
            intro W
            rw [run_slice_string_h W _ RT Tryz.underlying9 .i64 _ (by omega) (by omega), Int.toNat_natCast]
          have hsl2 : ∀ W, (Instr.slice 9 (.string RT) (some (.int .i64 (IntKind.i64.wrap ((i : Int) + 1)))) none none).run Tryz.prog W = .ok (.string (RT.extract (i + 1) RT.size)) W := by
            intro W
            rw [show IntKind.i64.wrap ((i : Int) + 1) = ((i + 1 : Nat) : Int) by rw [IntKind.wrap_i64]; omega]
            rw [run_slice_string_l W _ RT Tryz.underlying9 .i64 _ (by omega) (by omega), Int.toNat_natCast]
          have hcv := convert_lit (wr.alloc (.cells #[.int .u8 (otb ch).toNat] 5)).drew wr.heap.size (otb ch) (heap_alloc_new wr _)
          have HX1 := Hid.mk (show (RT.extract 0 i).data.toList = RT.data.toList.take i by
            have := extract_list RT 0 i
            rw [Nat.zero_add] at this
            rw [this, List.drop_zero])
          have HX2 := Hid.mk (show (RT.extract (i + 1) RT.size).data.toList = RT.data.toList.drop (i + 1) by
            have := extract_list RT (i + 1) (RT.size - (i + 1))
            rw [show i + 1 + (RT.size - (i + 1)) = RT.size by omega] at this
            rw [this]
            exact List.take_of_length_le (by simp))
          have hs1 : (RT.extract 0 i).size ≤ 900 := by rw [ByteArray.size_extract]; omega
          have hs2 : (RT.extract (i + 1) RT.size).size ≤ 900 := by rw [ByteArray.size_extract]; omega
          generalize RT.extract 0 i = E1 at *
          generalize RT.extract (i + 1) RT.size = E2 at *
          have HB5 := Hid.mk (show Below w4.heap.size w4 ((wr.alloc (.cells #[.int .u8 (otb ch).toNat] 5)).drew) from (HB.out.alloc HB.out.size _).drew)
          have HCH := Hid.mk hchE
          clear htn hzi hi hkl hch hchE
          go_wp2_with fail
          go_region_with (go_at_call 20; rw [← HCH.out]; refine (otherR_any ch _).mono ?_; rintro e w2 ⟨rfl, hw2⟩; subst hw2)
          all_goals focus
            generalize hX : E1 ++ ⟨#[otb ch]⟩ ++ E2 = X
            have HXl := Hid.mk (show X.data.toList = turnK (bitsL f) zs (k + 1) by
              rw [← hX, ba_cat, ba_cat, HX1.out, HX2.out, ← HTN.out]; simp)
            clear hX hsl1 hsl2 hcv
            go_wp2_with fail
            go_roundw
            case rel => exact ⟨k + 1, by omega, by go_num, rfl, ⟨X, rfl, HXl⟩, HIn, HB5⟩
            case measure => simp [intOf]; omega
        · have hzB : ¬ (0 ≤ zs.getD k 0 ∧ zs.getD k 0 < (RT.size : Int)) := by rw [HRS.out]; exact hzi
          have HG5 := Hid.mk (HG4.out.kept HB.out)
          generalize zs.getD k 0 = zk at *
          clear hzi hkl HI HRT
          by_cases h0 : zk < 0
          · go_wp2_with fail
            refine (HA3.out _ (HS.out.kept HBw.out) (HR.out.kept HBw.out)).mono ?_
            rintro e w6 ⟨rfl, hb6⟩
            have HB6 := Hid.mk (bl2 HBw.out hb6)
            have HG6 := Hid.mk (HG5.out.kept hb6)
            clear hb6
            go_wp2_with fail
            refine (HA3.out _ (HS.out.kept HB6.out) (HR.out.kept HB6.out)).mono ?_
            rintro e w7 ⟨rfl, hb7⟩
            have HB7 := Hid.mk (bl2 HB6.out hb7)
            obtain ⟨n0, n1, n2, n3, n4, n5⟩ := HG6.out.kept hb7
            clear hb7
            go_wp2_with fail
            refine (HA4.out _).mono ?_
            rintro e w8 ⟨rfl, hb8⟩
            have HB8 := Hid.mk (bl2 HB7.out hb8)
            clear hb8 n0 n1 n2 n3 n4 n5
            go_wp2_with fail
            go_ret
            exact ⟨rfl, HB8.out⟩
          · have h1 : (RT.size : Int) ≤ zk := by omega
            have h0' : 0 ≤ zk := by omega
            clear hzB
            go_wp2_with fail
            refine (HA3.out _ (HS.out.kept HBw.out) (HR.out.kept HBw.out)).mono ?_
            rintro e w6 ⟨rfl, hb6⟩
            have HB6 := Hid.mk (bl2 HBw.out hb6)
            have HG6 := Hid.mk (HG5.out.kept hb6)
            clear hb6
            go_wp2_with fail
            refine (HA3.out _ (HS.out.kept HB6.out) (HR.out.kept HB6.out)).mono ?_
            rintro e w7 ⟨rfl, hb7⟩
            have HB7 := Hid.mk (bl2 HB6.out hb7)
            obtain ⟨n0, n1, n2, n3, n4, n5⟩ := HG6.out.kept hb7
            clear hb7
            go_wp2_with fail
            refine (HA4.out _).mono ?_
            rintro e w8 ⟨rfl, hb8⟩
            have HB8 := Hid.mk (bl2 HB7.out hb8)
            clear hb8 n0 n1 n2 n3 n4 n5
            go_wp2_with fail
            go_ret
            exact ⟨rfl, HB8.out⟩
    · exfalso
      have e : k = zs.length := by have := HN.out.1; omega
      have h1 := HI.out
      rw [e] at h1
      have h2 := inAll_of h1
      rw [HIN.out] at h2
      cases h2
end Bw
end Go.Proofs.YthdhhmflfdbkhaaGreatDoor

/- What the document's own reading does, as plain functions on lists, bit by bit; of no program. -/
namespace Go.Proofs.YthdhhmflfdbkhaaGreatDoor
namespace Bw
open Bm Cm
def bitM (b : List UInt8) (S : RS) : UInt8 × RS :=
  if S.fl = 0 then
    (if (takeG b (S.o.length + 1) 0 []).2.2 = 0 then ((takeG b (S.o.length + 1) 0 []).1.getD S.o.length 0, ⟨0, (takeG b (S.o.length + 1) 0 []).2.1, (takeG b (S.o.length + 1) 0 []).1⟩)
     else (48, ⟨(takeG b (S.o.length + 1) 0 []).2.2, S.u, S.o⟩))
  else (48, S)
theorem bitM_bit (b : List UInt8) (hb : rowB b = true) (S : RS) : bit (bitM b S).1 = true := by
  unfold bitM
  split
  · split
    · rename_i h
      have hl := takeG_len b (S.o.length + 1) h
      have hr := takeG_row b hb (S.o.length + 1) 0 [] rfl
      have hk : S.o.length < (takeG b (S.o.length + 1) 0 []).1.length := by omega
      rw [List.getD, List.getElem?_eq_getElem hk, Option.getD_some]
      exact rowB_all.1 hr _ (List.getElem_mem hk)
    · rfl
  · rfl
theorem bitM_len (b : List UInt8) (S : RS) : (bitM b S).2.o.length ≤ S.o.length + 1 := by
  unfold bitM
  split
  · split
    · rename_i h
      show (takeG b (S.o.length + 1) 0 []).1.length ≤ _
      rw [takeG_len b _ h]; exact Nat.le_refl _
    · show S.o.length ≤ _; omega
  · show S.o.length ≤ _; omega
/-- so many bits, as a number -/
def numJ (b : List UInt8) (S : RS) : Nat → Nat × RS
  | 0 => (0, S)
  | j + 1 => (2 * (numJ b S j).1 + dig (bitM b (numJ b S j).2).1, (bitM b (numJ b S j).2).2)
theorem numJ_lt (b : List UInt8) (hb : rowB b = true) (S : RS) : ∀ j, (numJ b S j).1 < 2 ^ j
  | 0 => by simp [numJ]
  | j + 1 => by
    have h1 := numJ_lt b hb S j
    have h2 := (bit_dig (bitM_bit b hb (numJ b S j).2)).1
    show 2 * (numJ b S j).1 + dig (bitM b (numJ b S j).2).1 < 2 ^ (j + 1)
    rw [Nat.pow_succ]; omega
theorem numJ_len (b : List UInt8) (S : RS) : ∀ j, (numJ b S j).2.o.length ≤ S.o.length + j
  | 0 => Nat.le_refl _
  | j + 1 => by
    have h1 := numJ_len b S j
    have h2 := bitM_len b (numJ b S j).2
    show (bitM b (numJ b S j).2).2.o.length ≤ _
    omega
def mustM (S : RS) (ok : Bool) (e : Int) : RS := if S.fl = 0 ∧ ok = false then ⟨e, S.u, S.o⟩ else S
end Bw
end Go.Proofs.YthdhhmflfdbkhaaGreatDoor

/- Part by part or bit by bit, the same is read: plain facts on lists; of no program. -/
namespace Go.Proofs.YthdhhmflfdbkhaaGreatDoor
namespace Bw
open Bm Cm

/-- the same fault, and where there is none the same -/
def Eqv (S S' : RS) : Prop := S.fl = S'.fl ∧ (S.fl = 0 → S = S')
theorem Eqv.refl (S : RS) : Eqv S S := ⟨rfl, fun _ => rfl⟩
/-- what was taken is what is taken of so many -/
def Good (b : List UInt8) (S : RS) : Prop := S.fl = 0 → takeG b S.o.length 0 [] = (S.o, S.u, 0)
theorem Good.start (b : List UInt8) : Good b ⟨0, 0, []⟩ := fun _ => rfl
theorem Good.fail {b : List UInt8} {S : RS} (h : Good b S) {e : Int} (he : e ≠ 0) : Good b (failP S e) := by
  unfold failP
  split
  · intro h0; exact absurd h0 he
  · exact h
theorem Good.take {b : List UInt8} {S : RS} (h : Good b S) (n : Nat) : Good b (takeP b S n).2 := by
  unfold takeP
  split
  · split
    · rename_i h1
      intro _
      have hl := takeG_len b _ h1
      show takeG b (takeG b (S.o.length + n) 0 []).1.length 0 [] = _
      rw [hl]
      generalize takeG b (S.o.length + n) 0 [] = A at *
      obtain ⟨x, y, z⟩ := A
      simp only at h1 ⊢
      rw [h1]
    · rename_i h1
      intro h2; exact absurd h2 h1
  · exact h
theorem Good.wstep {b : List UInt8} {S : RS} (h : Good b S) (c : UInt8) : Good b (Bw.wstep b S c) := by
  unfold Bw.wstep
  split
  · exact h.take 1
  · exact (h.take 1).fail (by decide)
theorem takeP_bad {b : List UInt8} {S : RS} (h : S.fl ≠ 0) (n : Nat) : takeP b S n = ([], S) := by unfold takeP; rw [if_neg h]
theorem failP_bad {S : RS} (h : S.fl ≠ 0) (e : Int) : failP S e = S := by unfold failP; rw [if_neg h]
theorem bitM_bad {b : List UInt8} {S : RS} (h : S.fl ≠ 0) : bitM b S = (48, S) := by unfold bitM; rw [if_neg h]
theorem mustM_bad {S : RS} (h : S.fl ≠ 0) (ok : Bool) (e : Int) : mustM S ok e = S := by unfold mustM; rw [if_neg (fun x => h x.1)]
theorem wstep_bad {b : List UInt8} {S : RS} (h : S.fl ≠ 0) (c : UInt8) : Bw.wstep b S c = S := by
  unfold Bw.wstep; rw [takeP_bad h, if_neg (by simp)]; exact failP_bad h 4
theorem wantP_bad {b : List UInt8} {S : RS} (h : S.fl ≠ 0) (l : List UInt8) : wantP b S l = S := by
  unfold wantP
  induction l with
  | nil => rfl
  | cons c l ih => rw [List.foldl_cons, wstep_bad h]; exact ih
theorem nextP_bad {b : List UInt8} {S : RS} (h : S.fl ≠ 0) (n : Nat) : nextP b S n = ([], S) := by unfold nextP; rw [if_neg h]
theorem numJ_bad {b : List UInt8} {S : RS} (h : S.fl ≠ 0) : ∀ n, (numJ b S n).2 = S
  | 0 => rfl
  | n + 1 => by show (bitM b (numJ b S n).2).2 = S; rw [numJ_bad h n, bitM_bad h]
/-- one bit: the same behind it; and where nothing is wrong, the same bit -/
theorem bit_take (b : List UInt8) (S : RS) : (takeP b S 1).2 = (bitM b S).2 ∧ ((bitM b S).2.fl = 0 → (takeP b S 1).1 = [(bitM b S).1]) := by
  unfold takeP bitM
  by_cases h : S.fl = 0
  · rw [if_pos h, if_pos h]
    by_cases h1 : (takeG b (S.o.length + 1) 0 []).2.2 = 0
    · rw [if_pos h1, if_pos h1]
      refine ⟨rfl, fun _ => ?_⟩
      have hl := takeG_len b _ h1
      show List.drop _ _ = [_]
      generalize (takeG b (S.o.length + 1) 0 []).1 = x at *
      rw [List.drop_eq_getElem_cons (by omega), List.drop_of_length_le (by omega)]
      simp [List.getD, show S.o.length < x.length by omega]
    · rw [if_neg h1, if_neg h1]
      exact ⟨rfl, fun h2 => absurd h2 h1⟩
  · rw [if_neg h, if_neg h]
    exact ⟨rfl, fun h2 => absurd h2 h⟩
theorem takeG_more (b : List UInt8) : ∀ (n m u : Nat) (o : List UInt8), (takeG b n u o).2.2 ≠ 0 → takeG b (n + m) u o = takeG b n u o
  | 0, _, _, _, h => absurd rfl h
  | n + 1, m, u, o, h => by
    rw [show n + 1 + m = (n + m) + 1 by omega]
    rw [takeG] at h ⊢
    rw [takeG]
    split
    · rfl
    · rename_i h1
      rw [if_neg h1] at h
      split
      · rename_i h2
        rw [if_pos h2] at h
        split
        · rfl
        · rename_i h3
          rw [if_neg h3] at h
          split
          · rfl
          · rename_i h4
            rw [if_neg h4] at h
            exact takeG_more b n m _ _ h
      · rename_i h2
        rw [if_neg h2] at h
        exact takeG_more b n m _ _ h
/-- one bit more -/
theorem take_succ (b : List UInt8) (S : RS) (n : Nat) : (takeP b S (n + 1)).2.fl = (bitM b (takeP b S n).2).2.fl ∧
    ((takeP b S (n + 1)).2.fl = 0 → (takeP b S (n + 1)).2 = (bitM b (takeP b S n).2).2 ∧ (takeP b S (n + 1)).1 = (takeP b S n).1 ++ [(bitM b (takeP b S n).2).1]) := by
  by_cases h : S.fl = 0
  · have e1 : ∀ k, takeP b S k = if (takeG b (S.o.length + k) 0 []).2.2 = 0 then ((takeG b (S.o.length + k) 0 []).1.drop S.o.length, ⟨0, (takeG b (S.o.length + k) 0 []).2.1, (takeG b (S.o.length + k) 0 []).1⟩) else ([], ⟨(takeG b (S.o.length + k) 0 []).2.2, S.u, S.o⟩) := by
      intro k; unfold takeP; rw [if_pos h]
    by_cases h1 : (takeG b (S.o.length + n) 0 []).2.2 = 0
    · have hl := takeG_len b _ h1
      have e2 : takeP b S n = ((takeG b (S.o.length + n) 0 []).1.drop S.o.length, ⟨0, (takeG b (S.o.length + n) 0 []).2.1, (takeG b (S.o.length + n) 0 []).1⟩) := by rw [e1, if_pos h1]
      have hs := takeG_split b 1 (S.o.length + n) 0 []
      rw [e1 (n + 1), e2]
      unfold bitM
      simp only
      rw [if_pos trivial, hl, ← Nat.add_assoc]
      by_cases h2 : (takeG b (S.o.length + n + 1) 0 []).2.2 = 0
      · rw [if_pos h2, if_pos h2]
        refine ⟨rfl, fun _ => ⟨rfl, ?_⟩⟩
        have hl2 := takeG_len b _ h2
        obtain ⟨s, k, hk1, hk2⟩ := hs (takeG b (S.o.length + n + 1) 0 []).1 (takeG b (S.o.length + n + 1) 0 []).2.1 (by
          conv => lhs; rw [show S.o.length + n + 1 = (S.o.length + n) + 1 by omega]
          generalize takeG b (S.o.length + n + 1) 0 [] = A at *
          obtain ⟨x, y, z⟩ := A
          simp only at h2 ⊢
          rw [h2])
        rw [hk1] at hl
        have hp := (takeG_ok b 1 _ _ _ _ hk2).2.2
        rw [hk1]
        simp only at hl ⊢
        obtain ⟨t, ht⟩ := hp
        have htl : t.length = 1 := by
          have := congrArg List.length ht
          rw [List.length_append, hl, hl2] at this
          omega
        obtain ⟨c, rfl⟩ := List.length_eq_one_iff.1 htl
        rw [← ht, List.drop_append_of_le_length (by omega)]
        congr 2
        rw [← hl]
        simp [List.getD]
      · rw [if_neg h2, if_neg h2]
        exact ⟨rfl, fun h3 => absurd h3 h2⟩
    · have h2 := takeG_more b (S.o.length + n) 1 0 [] h1
      have e2 : takeP b S n = ([], ⟨(takeG b (S.o.length + n) 0 []).2.2, S.u, S.o⟩) := by rw [e1, if_neg h1]
      have e3 : takeP b S (n + 1) = ([], ⟨(takeG b (S.o.length + n) 0 []).2.2, S.u, S.o⟩) := by
        rw [e1, ← Nat.add_assoc, h2, if_neg h1]
      rw [e2, e3, bitM_bad h1]
      exact ⟨rfl, fun h3 => absurd h3 h1⟩
  · rw [takeP_bad h, takeP_bad h, bitM_bad h]
    exact ⟨rfl, fun h3 => absurd h3 h⟩
theorem take_zero (b : List UInt8) (S : RS) (hG : Good b S) : takeP b S 0 = ([], S) := by
  by_cases h : S.fl = 0
  · unfold takeP
    rw [if_pos h, Nat.add_zero, hG h]
    obtain ⟨fl, u, o⟩ := S
    simp only at h
    subst h
    simp
  · exact takeP_bad h 0
theorem bitM_eqv {b : List UInt8} {S S' : RS} (h : Eqv S S') : Eqv (bitM b S).2 (bitM b S').2 ∧ ((bitM b S).2.fl = 0 → (bitM b S).1 = (bitM b S').1) := by
  by_cases h0 : S.fl = 0
  · rw [h.2 h0]; exact ⟨Eqv.refl _, fun _ => rfl⟩
  · have h1 : S'.fl ≠ 0 := by rw [← h.1]; exact h0
    rw [bitM_bad h0, bitM_bad h1]
    exact ⟨h, fun _ => rfl⟩
theorem num_eqv {b : List UInt8} {S S' : RS} (hG : Good b S) (h : Eqv S S') : ∀ n, Eqv (numP b S n).2 (numJ b S' n).2 ∧ ((numP b S n).2.fl = 0 → (numP b S n).1 = (numJ b S' n).1)
  | 0 => by
    unfold numP
    rw [take_zero b S hG]
    exact ⟨h, fun _ => rfl⟩
  | n + 1 => by
    obtain ⟨h1, h2⟩ := num_eqv hG h n
    obtain ⟨g1, g2⟩ := take_succ b S n
    obtain ⟨q1, q2⟩ := bitM_eqv (b := b) h1
    have e : (numP b S n).2 = (takeP b S n).2 := rfl
    rw [e] at q1 q2 h2
    refine ⟨⟨g1.trans q1.1, fun h0 => ?_⟩, fun h0 => ?_⟩
    · have h0' : (takeP b S (n + 1)).2.fl = 0 := h0
      have := (g2 h0').1
      show (takeP b S (n + 1)).2 = (bitM b (numJ b S' n).2).2
      rw [this]
      exact q1.2 (by rw [← this]; exact h0')
    · have h0' : (takeP b S (n + 1)).2.fl = 0 := h0
      obtain ⟨k1, k2⟩ := g2 h0'
      have hz : (bitM b (takeP b S n).2).2.fl = 0 := by rw [← k1]; exact h0'
      have hz2 : (takeP b S n).2.fl = 0 := by
        rcases Classical.em ((takeP b S n).2.fl = 0) with x | x
        · exact x
        · rw [bitM_bad x] at hz; exact hz
      show val (takeP b S (n + 1)).1 = 2 * (numJ b S' n).1 + dig (bitM b (numJ b S' n).2).1
      rw [k2, val_snoc, q2 hz]
      have := h2 hz2
      unfold numP at this
      simp only at this
      rw [this]
end Bw
end Go.Proofs.YthdhhmflfdbkhaaGreatDoor

/- Part by part or bit by bit, the same is read, from the first bit to the last: plain facts on lists; of no program. -/
namespace Go.Proofs.YthdhhmflfdbkhaaGreatDoor
namespace Bw
open Bm Cm

theorem mustM_eq (S : RS) (ok : Bool) (e : Int) : mustM S ok e = if ok = true then S else failP S e := by
  unfold mustM failP
  cases ok <;> by_cases h : S.fl = 0 <;> simp [h]
/-- a bit that must be -/
def wj (b : List UInt8) (S : RS) (c : UInt8) : RS := mustM (bitM b S).2 ((bitM b S).1 == c) 4
theorem bit_is (b : List UInt8) (S : RS) (c : UInt8) (hc : c ≠ 48) : (takeP b S 1).1 = [c] ↔ (bitM b S).1 = c := by
  obtain ⟨h1, h2⟩ := bit_take b S
  by_cases h0 : (bitM b S).2.fl = 0
  · rw [h2 h0]; simp
  · have e1 : (bitM b S).1 = 48 := by
      unfold bitM at h0 ⊢
      split
      · rename_i h
        rw [if_pos h] at h0
        split
        · rename_i h'; rw [if_pos h'] at h0; exact absurd rfl h0
        · rfl
      · rfl
    have e2 : (takeP b S 1).1 = [] := by
      rw [← h1] at h0
      unfold takeP at h0 ⊢
      split
      · rename_i h
        rw [if_pos h] at h0
        split
        · rename_i h'; rw [if_pos h'] at h0; exact absurd rfl h0
        · rfl
      · rfl
    rw [e1, e2]
    simp [Ne.symm hc]
theorem wj_eq (b : List UInt8) (S : RS) (c : UInt8) : wstep b S c = wj b S c := by
  obtain ⟨h1, h2⟩ := bit_take b S
  unfold wstep wj
  rw [mustM_eq, h1]
  by_cases h0 : (bitM b S).2.fl = 0
  · rw [h2 h0]; simp
  · rw [failP_bad h0]; simp
theorem wj_bad {b : List UInt8} {S : RS} (h : S.fl ≠ 0) (c : UInt8) : wj b S c = S := by rw [← wj_eq]; exact wstep_bad h c
/-- so many bits, one by one -/
def tJ (b : List UInt8) (S : RS) : Nat → List UInt8 × RS
  | 0 => ([], S)
  | j + 1 => ((tJ b S j).1 ++ [(bitM b (tJ b S j).2).1], (bitM b (tJ b S j).2).2)
theorem tJ_len (b : List UInt8) (S : RS) : ∀ n, (tJ b S n).1.length = n
  | 0 => rfl
  | n + 1 => by rw [tJ, List.length_append, tJ_len b S n]; rfl
theorem tJ_bad {b : List UInt8} {S : RS} (h : S.fl ≠ 0) : ∀ n, (tJ b S n).2 = S
  | 0 => rfl
  | n + 1 => by show (bitM b (tJ b S n).2).2 = S; rw [tJ_bad h n, bitM_bad h]
theorem numJ_tJ (b : List UInt8) (S : RS) : ∀ n, numJ b S n = (val (tJ b S n).1, (tJ b S n).2)
  | 0 => rfl
  | n + 1 => by rw [numJ, tJ, numJ_tJ b S n, val_snoc]
theorem tJ_add (b : List UInt8) (S : RS) (m : Nat) : ∀ n, tJ b S (m + n) = ((tJ b S m).1 ++ (tJ b (tJ b S m).2 n).1, (tJ b (tJ b S m).2 n).2)
  | 0 => by simp [tJ]
  | n + 1 => by rw [← Nat.add_assoc, tJ, tJ, tJ_add b S m n]; simp
theorem take_tJ {b : List UInt8} {S : RS} (hG : Good b S) : ∀ n, Eqv (takeP b S n).2 (tJ b S n).2 ∧ ((takeP b S n).2.fl = 0 → (takeP b S n).1 = (tJ b S n).1)
  | 0 => by rw [take_zero b S hG]; exact ⟨Eqv.refl _, fun _ => rfl⟩
  | n + 1 => by
    obtain ⟨h1, h2⟩ := take_tJ hG n
    obtain ⟨g1, g2⟩ := take_succ b S n
    obtain ⟨q1, q2⟩ := bitM_eqv (b := b) h1
    refine ⟨⟨g1.trans q1.1, fun h0 => ?_⟩, fun h0 => ?_⟩
    · have := (g2 h0).1
      show (takeP b S (n + 1)).2 = (bitM b (tJ b S n).2).2
      rw [this]
      exact q1.2 (by rw [← this]; exact h0)
    · obtain ⟨k1, k2⟩ := g2 h0
      have hz : (bitM b (takeP b S n).2).2.fl = 0 := by rw [← k1]; exact h0
      have hz2 : (takeP b S n).2.fl = 0 := by
        rcases Classical.em ((takeP b S n).2.fl = 0) with x | x
        · exact x
        · rw [bitM_bad x] at hz; exact hz
      show (takeP b S (n + 1)).1 = (tJ b S n).1 ++ [(bitM b (tJ b S n).2).1]
      rw [k2, q2 hz, h2 hz2]

def jA (b : List UInt8) (S : RS) : RS := wj b S 48
def jN (b : List UInt8) (S : RS) : Nat × RS := numJ b (jA b S) 11
def jF (b : List UInt8) (S : RS) : UInt8 × RS := bitM b (jN b S).2
def jL (b : List UInt8) (S : RS) : UInt8 × RS := bitM b (jF b S).2
def j5 (b : List UInt8) (S : RS) : RS := mustM (jL b S).2 ((jF b S).1 == 49) 4
def jM (b : List UInt8) (S : RS) : Nat × RS := numJ b (j5 b S) 18
def jR (b : List UInt8) (S : RS) : UInt8 × RS := bitM b (jM b S).2
def nameJ (b : List UInt8) (S : RS) : NmR :=
  if (jL b S).1 = 49 then ⟨(jR b S).2, (jN b S).1 * 262144 + (jM b S).1, true, decide ((jR b S).1 = 49)⟩
  else ⟨(jL b S).2, (jN b S).1, false, decide ((jF b S).1 = 49)⟩
def formJ (b : List UInt8) (S : RS) (lo re : Bool) : RS × Bool :=
  if (bitM b S).1 = 49 then (wj b (wj b (wj b (mustM (bitM b S).2 (!re) 4) 48) 49) 48, true)
  else (if lo then wj b (bitM b S).2 48 else (bitM b S).2, false)
def dj2 (b : List UInt8) (S : RS) (fa : Bool) : RS := mustM (numJ b S 4).2 (fa || decide ((numJ b S 4).1 ≤ 8)) 4
def dlJ (b : List UInt8) (S : RS) : Nat → RS × List UInt8
  | 0 => (S, [])
  | j + 1 => if (dlJ b S j).1.fl = 0 then ((numJ b (dlJ b S j).1 8).2, (dlJ b S j).2 ++ [UInt8.ofNat (numJ b (dlJ b S j).1 8).1]) else dlJ b S j
def dataJ (b : List UInt8) (S : RS) (fa re : Bool) : DtR :=
  if re then ⟨dj2 b S fa, (numJ b S 4).1, []⟩
  else ⟨(dlJ b (dj2 b S fa) (sizesL.getD (numJ b S 4).1 0)).1, 0, (dlJ b (dj2 b S fa) (sizesL.getD (numJ b S 4).1 0)).2⟩
def sumJ (b : List UInt8) (S : RS) : RS := mustM (tJ b S 15).2 ((tJ b S 15).1 == sumL 0 S.o) 6
def fxB (g : List UInt8) (a : UInt8) (j : Nat) : UInt8 := if j = 0 then a else g.getD (5 * j - 1) 0
def fxJ (g : List UInt8) (a : UInt8) (S : RS) : Nat → RS
  | 0 => S
  | j + 1 => mustM (fxJ g a S j) (g.getD (5 * j) 0 != fxB g a j) 5
def fixedJ (b : List UInt8) (S : RS) (n : Nat) : RS :=
  mustM (fxJ (nextP b S (fastL S.o (b.take S.u) n).length).1 (lastB (b.take S.u)) (nextP b S (fastL S.o (b.take S.u) n).length).2 (((nextP b S (fastL S.o (b.take S.u) n).length).1.length + 4) / 5))
    ((nextP b S (fastL S.o (b.take S.u) n).length).1 == fastL S.o (b.take S.u) n) 6
def endJ (b : List UInt8) (S : RS) : RS := mustM (nextP b S 10).2 ((nextP b S 10).1 == onesL || (nextP b S 10).1 == heardL) 4
def jdA (b : List UInt8) : NmR := nameJ b ⟨0, 0, []⟩
def jdB (b : List UInt8) : RS × Bool := formJ b (jdA b).S (jdA b).lo (jdA b).re
def jdD (b : List UInt8) : DtR := dataJ b (jdB b).1 (jdB b).2 (jdA b).re
def jdS (b : List UInt8) : RS := if (jdD b).S.fl = 0 then (if (jdB b).2 then fixedJ b (jdD b).S (jdD b).dt.length else sumJ b (jdD b).S) else (jdD b).S
def jdE (b : List UInt8) : RS := endJ b (jdS b)
def jdF (b : List UInt8) : Fr := ⟨(jdA b).id, (jdA b).lo, (jdB b).2, (jdA b).re, (jdD b).sz, (jdD b).dt⟩

theorem name_same (b : List UInt8) (S : RS) (hG : Good b S) : Eqv (nameP b S).S (nameJ b S).S ∧ ((nameP b S).S.fl = 0 → nameP b S = nameJ b S) := by
  have a1 : nm1 b S = jA b S := by unfold nm1 jA wantP; exact wj_eq b S 48
  have g1 : Good b (nm1 b S) := by unfold nm1 wantP; exact hG.wstep 48
  obtain ⟨n1, n2⟩ := num_eqv g1 (Eqv.refl (nm1 b S)) 11
  have eN : jN b S = numJ b (nm1 b S) 11 := by unfold jN; rw [a1]
  by_cases h0 : (nmN b S).2.fl = 0
  · have hN : nmN b S = jN b S := by
      rw [eN]
      exact Prod.ext (n2 h0) (n1.2 h0)
    have gN : Good b (nmN b S).2 := g1.take 11
    have bF := bit_take b (nmN b S).2
    have hF : (nmF b S).2 = (jF b S).2 := by unfold nmF jF; rw [← hN]; exact bF.1
    have hF1 : (nmF b S).1 = [49] ↔ (jF b S).1 = 49 := by unfold nmF jF; rw [← hN]; exact bit_is b _ 49 (by decide)
    have hL : (nmL b S).2 = (jL b S).2 := by unfold nmL jL; rw [← hF]; exact (bit_take b _).1
    have hL1 : (nmL b S).1 = [49] ↔ (jL b S).1 = 49 := by unfold nmL jL; rw [← hF]; exact bit_is b _ 49 (by decide)
    have gF : Good b (nmF b S).2 := gN.take 1
    have gL : Good b (nmL b S).2 := gF.take 1
    have h5 : nm5 b S = j5 b S := by
      unfold nm5 j5
      rw [mustM_eq, ← hL]
      by_cases hx : (jF b S).1 = 49
      · rw [if_pos (hF1.2 hx), if_pos (by simpa using hx)]
      · rw [if_neg (fun y => hx (hF1.1 y)), if_neg (by simpa using hx)]
    unfold nameP nameJ
    by_cases hl : (jL b S).1 = 49
    · rw [if_pos (hL1.2 hl), if_pos hl]
      have g5 : Good b (nm5 b S) := by unfold nm5; split; exact gL; exact gL.fail (by decide)
      obtain ⟨m1, m2⟩ := num_eqv g5 (Eqv.refl (nm5 b S)) 18
      have eM : jM b S = numJ b (nm5 b S) 18 := by unfold jM; rw [h5]
      by_cases hm : (nmM b S).2.fl = 0
      · have hM : nmM b S = jM b S := by rw [eM]; exact Prod.ext (m2 hm) (m1.2 hm)
        have hR : (nmR b S).2 = (jR b S).2 := by unfold nmR jR; rw [← hM]; exact (bit_take b _).1
        have hR1 : (nmR b S).1 = [49] ↔ (jR b S).1 = 49 := by unfold nmR jR; rw [← hM]; exact bit_is b _ 49 (by decide)
        simp only [hR, hN, hM, hR1]
        exact ⟨Eqv.refl _, fun _ => trivial⟩
      · have hm' : (jM b S).2.fl ≠ 0 := by rw [eM, ← m1.1]; exact hm
        have e1 : (nmR b S).2 = (nmM b S).2 := by unfold nmR; rw [takeP_bad hm]
        have e2 : (jR b S).2 = (jM b S).2 := by unfold jR; rw [bitM_bad hm']
        simp only [e1, e2]
        refine ⟨?_, fun h => absurd h hm⟩
        rw [eM]; exact m1
    · rw [if_neg (fun y => hl (hL1.1 y)), if_neg hl]
      simp only [hL, hN, hF1]
      exact ⟨Eqv.refl _, fun _ => trivial⟩
  · have h0' : (jN b S).2.fl ≠ 0 := by rw [eN, ← n1.1]; exact h0
    have e1 : nmF b S = ([], (nmN b S).2) := by unfold nmF; rw [takeP_bad h0]
    have e2 : nmL b S = ([], (nmN b S).2) := by unfold nmL; rw [e1, takeP_bad h0]
    have e3 : jF b S = (48, (jN b S).2) := by unfold jF; rw [bitM_bad h0']
    have e4 : jL b S = (48, (jN b S).2) := by unfold jL; rw [e3, bitM_bad h0']
    unfold nameP nameJ
    rw [e2, e4, if_neg (by simp), if_neg (by simp)]
    refine ⟨?_, fun h => absurd h h0⟩
    rw [eN]; exact n1

theorem form_same (b : List UInt8) (S : RS) (lo re : Bool) : formP b S lo re = formJ b S lo re := by
  unfold formP formJ
  rw [(bit_take b S).1]
  by_cases h : (bitM b S).1 = 49
  · rw [if_pos ((bit_is b S 49 (by decide)).2 h), if_pos h]
    cases re
    · have e : mustM (bitM b S).2 (!false) 4 = (bitM b S).2 := by rw [mustM_eq]; rfl
      rw [e]
      simp only [Bool.false_eq_true, if_false, wantP, List.foldl_cons, List.foldl_nil, wj_eq]
    · simp only [if_true]
      have e : mustM (bitM b S).2 (!true) 4 = failP (bitM b S).2 4 := by rw [mustM_eq]; rfl
      have hf : (failP (bitM b S).2 4).fl ≠ 0 := by
        unfold failP
        split
        · simp
        · assumption
      rw [e, wj_bad hf, wj_bad hf, wj_bad hf]
  · rw [if_neg (fun y => h ((bit_is b S 49 (by decide)).1 y)), if_neg h]
    cases lo
    · rfl
    · simp only [if_true, wantP, List.foldl_cons, List.foldl_nil, wj_eq]

theorem bytesL_app (x y : List UInt8) (j : Nat) (hx : x.length = 8 * j) (hy : y.length = 8) : bytesL (x ++ y) = bytesL x ++ [UInt8.ofNat (val y)] := by
  unfold bytesL
  have e1 : (x ++ y).length / 8 = j + 1 := by rw [List.length_append]; omega
  have e2 : x.length / 8 = j := by omega
  rw [e1, e2, List.range_succ, List.map_append, List.map_singleton]
  congr 1
  · apply List.map_congr_left
    intro i hi
    have hi' : i < j := by simpa using hi
    unfold byteAt
    rw [List.drop_append_of_le_length (by omega), List.take_append_of_le_length (by rw [List.length_drop]; omega)]
  · unfold byteAt
    rw [← hx, List.drop_left, List.take_of_length_le (by omega)]
theorem dlJ_tJ (b : List UInt8) (S : RS) : ∀ j, (dlJ b S j).1.fl = (tJ b S (8 * j)).2.fl ∧ ((dlJ b S j).1.fl = 0 → dlJ b S j = ((tJ b S (8 * j)).2, bytesL (tJ b S (8 * j)).1))
  | 0 => ⟨rfl, fun _ => by simp [dlJ, tJ, bytesL]⟩
  | j + 1 => by
    obtain ⟨h1, h2⟩ := dlJ_tJ b S j
    rw [show 8 * (j + 1) = 8 * j + 8 by omega, tJ_add, dlJ]
    by_cases h0 : (dlJ b S j).1.fl = 0
    · rw [if_pos h0, h2 h0]
      simp only [numJ_tJ]
      refine ⟨trivial, fun _ => ?_⟩
      rw [bytesL_app _ _ j (tJ_len _ _ _) (tJ_len _ _ _)]
    · rw [if_neg h0]
      have h0' : (tJ b S (8 * j)).2.fl ≠ 0 := by rw [← h1]; exact h0
      refine ⟨?_, fun h => absurd h h0⟩
      show _ = (tJ b (tJ b S (8 * j)).2 8).2.fl
      rw [tJ_bad h0', h1]
theorem sizes16 : ∀ n : Fin 16, ∀ fa : Bool, (decide (topD fa < sizesL.getD n.1 0)) = !(fa || decide (n.1 ≤ 8)) := by decide +kernel
theorem data_same (b : List UInt8) (hb : rowB b = true) (S : RS) (fa re : Bool) (hG : Good b S) (hf : ¬ (fa = true ∧ re = true)) : Eqv (dataP b S fa re).S (dataJ b S fa re).S ∧ ((dataP b S fa re).S.fl = 0 → dataP b S fa re = dataJ b S fa re) := by
  obtain ⟨n1, n2⟩ := num_eqv hG (Eqv.refl S) 4
  by_cases h0 : (numP b S 4).2.fl = 0
  · have hN : numP b S 4 = numJ b S 4 := Prod.ext (n2 h0) (n1.2 h0)
    have hlt := numP_lt b hb S 4
    have h16 := sizes16 ⟨(numP b S 4).1, by omega⟩ fa
    simp only at h16
    have h2 : dt2 b S fa = dj2 b S fa := by
      unfold dt2 dj2 dtN
      rw [mustM_eq, ← hN]
      by_cases hx : topD fa < sizesL.getD (numP b S 4).1 0
      · rw [if_pos hx]
        have : (fa || decide ((numP b S 4).1 ≤ 8)) = false := by rw [decide_eq_true hx] at h16; simpa using h16.symm
        rw [this]; rfl
      · rw [if_neg hx]
        have : (fa || decide ((numP b S 4).1 ≤ 8)) = true := by rw [decide_eq_false hx] at h16; revert h16; cases (fa || decide ((numP b S 4).1 ≤ 8)) <;> simp
        rw [this]; rfl
    have hd : dtN b S = sizesL.getD (numJ b S 4).1 0 := by unfold dtN; rw [hN]
    unfold dataP dataJ
    cases re
    · simp only [Bool.false_eq_true, if_false]
      have g2 : Good b (dt2 b S fa) := by
        unfold dt2
        split
        · exact (hG.take 4).fail (by decide)
        · exact hG.take 4
      obtain ⟨t1, t2⟩ := take_tJ g2 (8 * dtN b S)
      obtain ⟨d1, d2⟩ := dlJ_tJ b (dj2 b S fa) (sizesL.getD (numJ b S 4).1 0)
      rw [← hd, ← h2] at d1 d2 ⊢
      refine ⟨⟨t1.1.trans d1.symm, fun h => ?_⟩, fun h => ?_⟩
      · have hz : (dlJ b (dt2 b S fa) (dtN b S)).1.fl = 0 := by rw [d1, ← t1.1]; exact h
        rw [d2 hz]; exact t1.2 h
      · have hz : (dlJ b (dt2 b S fa) (dtN b S)).1.fl = 0 := by rw [d1, ← t1.1]; exact h
        rw [d2 hz, t1.2 h, t2 h]
    · simp only [if_true, h2]
      refine ⟨Eqv.refl _, fun h => ?_⟩
      have hfa : fa = false := by cases fa; rfl; exact absurd ⟨rfl, rfl⟩ hf
      have hle : (numJ b S 4).1 ≤ 8 := by
        rcases Nat.lt_or_ge 8 (numJ b S 4).1 with hx | hx
        · exfalso
          unfold dj2 at h
          have : (fa || decide ((numJ b S 4).1 ≤ 8)) = false := by rw [hfa]; simp; omega
          rw [this, mustM_eq, if_neg (by decide)] at h
          unfold failP at h
          split at h
          · exact absurd h (by simp)
          · contradiction
        · exact hx
      rw [hd, sizes_small hle]
  · have h0' : (numJ b S 4).2.fl ≠ 0 := by rw [← n1.1]; exact h0
    have e1 : dt2 b S fa = (numP b S 4).2 := by unfold dt2; split; exact failP_bad h0 4; rfl
    have e2 : dj2 b S fa = (numJ b S 4).2 := by unfold dj2; rw [mustM_bad h0']
    have e3 : (dataP b S fa re).S = (numP b S 4).2 := by
      unfold dataP
      rw [e1]
      split
      · rfl
      · show (takeP b _ _).2 = _; rw [takeP_bad h0]
    have e4 : (dataJ b S fa re).S = (numJ b S 4).2 := by
      unfold dataJ
      rw [e2]
      have hdl : ∀ j, (dlJ b (numJ b S 4).2 j).1 = (numJ b S 4).2 := by
        intro j
        induction j with
        | zero => rfl
        | succ j ih => rw [dlJ, ih, if_neg h0', ih]
      split
      · rfl
      · exact hdl _
    rw [e3, e4]
    exact ⟨n1, fun h => absurd h h0⟩
theorem sum_same (b : List UInt8) (S : RS) (hG : Good b S) : Eqv (sumP b S) (sumJ b S) := by
  obtain ⟨t1, t2⟩ := take_tJ hG 15
  unfold sumP sumJ
  rw [mustM_eq]
  by_cases h0 : (takeP b S 15).2.fl = 0
  · rw [t2 h0, t1.2 h0]
    by_cases hx : (tJ b S 15).1 = sumL 0 S.o
    · rw [if_pos hx, if_pos (by simpa using hx)]; exact Eqv.refl _
    · rw [if_neg hx, if_neg (by simpa using hx)]; exact Eqv.refl _
  · have h0' : (tJ b S 15).2.fl ≠ 0 := by rw [← t1.1]; exact h0
    rw [failP_bad h0, failP_bad h0']
    simp only [ite_self]
    exact t1
end Bw
end Go.Proofs.YthdhhmflfdbkhaaGreatDoor

/- The fixed bits of a fast frame, and the last ten; then: both ways of reading answer the same. Plain facts on lists; of no program. -/
namespace Go.Proofs.YthdhhmflfdbkhaaGreatDoor
namespace Bw
open Bm Cm

/-- each fifth bit is another one than the one ahead of it -/
def okF : List UInt8 → Nat → UInt8 → Bool
  | [], _, _ => true
  | c :: l, i, a => (if i % 5 = 0 then c == otb a else true) && okF l (i + 1) c
theorem okF_eq : ∀ (g h : List UInt8) (i : Nat) (a : UInt8), okF g i a = true → okF h i a = true → g.length = h.length → unfixL g i = unfixL h i → g = h
  | [], [], _, _, _, _, _, _ => rfl
  | [], _ :: _, _, _, _, _, hl, _ => by simp at hl
  | _ :: _, [], _, _, _, _, hl, _ => by simp at hl
  | c :: g, d :: h, i, a, hg, hh, hl, hu => by
    rw [okF, Bool.and_eq_true] at hg hh
    rw [unfixL, unfixL] at hu
    have hl' : g.length = h.length := by simpa using hl
    by_cases h5 : i % 5 = 0
    · rw [if_pos h5] at hg hh
      rw [if_pos h5, if_pos h5] at hu
      have e1 : c = otb a := by simpa using hg.1
      have e2 : d = otb a := by simpa using hh.1
      subst e1; subst e2
      rw [okF_eq g h (i + 1) _ hg.2 hh.2 hl' hu]
    · rw [if_neg h5, if_neg h5] at hu
      injection hu with e1 e2
      subst e1
      rw [okF_eq g h (i + 1) _ hg.2 hh.2 hl' e2]
theorem okF_snoc : ∀ (x : List UInt8) (i : Nat) (a c : UInt8), okF (x ++ [c]) i a = (okF x i a && (if (i + x.length) % 5 = 0 then c == otb (x.getLastD a) else true))
  | [], i, a, c => by simp [okF]
  | d :: x, i, a, c => by
    rw [List.cons_append, okF, okF, okF_snoc x (i + 1) d c, Bool.and_assoc, List.length_cons, show i + 1 + x.length = i + (x.length + 1) by omega, List.getLastD_cons]
theorem fixR_lastD (l : List UInt8) (a : UInt8) : ∀ i, (fixR l a i).getLastD a = fixP l a i
  | 0 => rfl
  | i + 1 => by rw [fixR]; simp [fixP]
theorem okF_fixR (l : List UInt8) (a : UInt8) : ∀ i, okF (fixR l a i) 0 a = true
  | 0 => rfl
  | i + 1 => by
    have ih := okF_fixR l a i
    have hl : ∀ j, (fixR l a j).length = j + (j + 3) / 4 := by
      intro j
      induction j with
      | zero => rfl
      | succ j ihj => rw [fixR]; split <;> simp [ihj] <;> omega
    rw [fixR]
    by_cases h4 : i % 4 = 0
    · rw [if_pos h4, okF_snoc, okF_snoc, ih, fixR_lastD]
      have e2 : ¬ (0 + (fixR l a i ++ [otb (fixP l a i)]).length) % 5 = 0 := by simp [hl]; omega
      rw [if_neg e2]
      simp
    · rw [if_neg h4, okF_snoc, ih]
      have e2 : ¬ (0 + (fixR l a i).length) % 5 = 0 := by simp [hl]; omega
      rw [if_neg e2]; rfl
theorem unfix_len : ∀ (x : List UInt8) (i : Nat), (unfixL x i).length + (x.length + i + 4) / 5 = x.length + (i + 4) / 5
  | [], i => by simp [unfixL]
  | c :: x, i => by
    have ih := unfix_len x (i + 1)
    rw [unfixL]
    split
    · rw [List.length_cons]
      have e : x.length + 1 + i + 4 = x.length + (i + 1) + 4 := by omega
      rw [e]; omega
    · rw [List.length_cons, List.length_cons]
      have e : x.length + 1 + i + 4 = x.length + (i + 1) + 4 := by omega
      rw [e]; omega
theorem fix_is (g : List UInt8) (a : UInt8) (h1 : g.length % 5 ≠ 1) : g = fixL (unfixL g 0) a ↔ okF g 0 a = true := by
  constructor
  · intro h
    rw [h]; exact okF_fixR _ _ _
  · intro h
    refine okF_eq g _ 0 a h (okF_fixR _ _ _) ?_ (unfix_fixL _ _).symm
    have h2 := unfix_len g 0
    have h3 : (fixL (unfixL g 0) a).length = (unfixL g 0).length + ((unfixL g 0).length + 3) / 4 := (unfix_fix (unfixL g 0) a _ (Nat.le_refl _)).2
    rw [h3]
    rcases (by omega : g.length % 5 = 0 ∨ g.length % 5 = 2 ∨ g.length % 5 = 3 ∨ g.length % 5 = 4) with h | h | h | h <;> omega
theorem okF_idx : ∀ (g : List UInt8) (i : Nat) (a : UInt8), okF g i a = true ↔ ∀ k, k < g.length → (i + k) % 5 = 0 → g.getD k 0 = otb (if k = 0 then a else g.getD (k - 1) 0)
  | [], i, a => by simp [okF]
  | c :: g, i, a => by
    rw [okF, Bool.and_eq_true, okF_idx g (i + 1) c]
    constructor
    · rintro ⟨h1, h2⟩ k hk h5
      cases k with
      | zero =>
        rw [Nat.add_zero] at h5
        rw [if_pos h5] at h1
        simpa using h1
      | succ k =>
        have := h2 k (by simpa using hk) (by rw [← h5]; congr 1; omega)
        rw [if_neg (by omega)]
        show g.getD k 0 = _
        rw [this]
        cases k with
        | zero => rfl
        | succ k => rfl
    · intro h
      refine ⟨?_, fun k hk h5 => ?_⟩
      · split
        · rename_i h5
          have := h 0 (by simp) (by simpa using h5)
          simpa using this
        · rfl
      · have := h (k + 1) (by simpa using hk) (by rw [← h5]; congr 1; omega)
        rw [if_neg (by omega)] at this
        have e : (c :: g).getD (k + 1) 0 = g.getD k 0 := rfl
        rw [e] at this
        rw [this]
        cases k with
        | zero => rfl
        | succ k => rfl
theorem failP_fl (S : RS) {e : Int} (he : e ≠ 0) : (failP S e).fl ≠ 0 := by
  unfold failP
  split
  · exact he
  · assumption
theorem fxJ_eq (g : List UInt8) (a : UInt8) (S : RS) : ∀ j, fxJ g a S j = if (∀ k, k < j → g.getD (5 * k) 0 ≠ fxB g a k) then S else failP S 5
  | 0 => by simp [fxJ]
  | j + 1 => by
    rw [fxJ, fxJ_eq g a S j, mustM_eq]
    by_cases h1 : ∀ k, k < j → g.getD (5 * k) 0 ≠ fxB g a k
    · rw [if_pos h1]
      by_cases h2 : g.getD (5 * j) 0 = fxB g a j
      · rw [if_neg (by simp only [bne_iff_ne]; exact fun h => h h2), if_neg (fun h => h j (by omega) h2)]
      · rw [if_pos (by simpa using h2), if_pos]
        intro k hk
        rcases Nat.lt_or_ge k j with hkj | hkj
        · exact h1 k hkj
        · have : k = j := by omega
          subst this; exact h2
    · have hf : (failP S 5).fl ≠ 0 := failP_fl S (by decide)
      rw [if_neg h1, failP_bad hf, ite_self, if_neg (fun h => h1 fun k hk => h k (by omega))]
theorem u8_is {c : UInt8} (n : Nat) (h : (c.toNat : Int) = n) : c = UInt8.ofNat n := by
  have : c.toNat = n := by omega
  rw [← this]; exact UInt8.ofNat_toNat.symm
theorem bit_otb {c a : UInt8} (hc : bit c = true) (ha : bit a = true) : c = otb a ↔ c ≠ a := by
  rcases (bit_iff c).1 hc with h | h <;> rcases (bit_iff a).1 ha with h' | h'
  · rw [u8_is 48 h, u8_is 48 h']; decide
  · rw [u8_is 48 h, u8_is 49 h']; decide
  · rw [u8_is 49 h, u8_is 48 h']; decide
  · rw [u8_is 49 h, u8_is 49 h']; decide
theorem row_getD {g : List UInt8} (hg : rowB g = true) {k : Nat} (hk : k < g.length) : bit (g.getD k 0) = true := by
  rw [List.getD, List.getElem?_eq_getElem hk, Option.getD_some]
  exact rowB_all.1 hg _ (List.getElem_mem hk)
theorem fx_ok (g : List UInt8) (a : UInt8) (hg : rowB g = true) (ha : bit a = true) : (∀ k, k < (g.length + 4) / 5 → g.getD (5 * k) 0 ≠ fxB g a k) ↔ okF g 0 a = true := by
  rw [okF_idx]
  constructor
  · intro h k hk h5
    obtain ⟨q, rfl⟩ : ∃ q, k = 5 * q := ⟨k / 5, by omega⟩
    have h1 := h q (by omega)
    unfold fxB at h1
    by_cases hq : q = 0
    · subst hq
      rw [if_pos rfl] at h1
      rw [if_pos (by omega)]
      exact (bit_otb (row_getD hg hk) ha).2 h1
    · rw [if_neg hq] at h1
      rw [if_neg (by omega)]
      exact (bit_otb (row_getD hg hk) (row_getD hg (by omega))).2 h1
  · intro h k hk
    have h1 := h (5 * k) (by omega) (by omega)
    unfold fxB
    by_cases hq : k = 0
    · subst hq
      rw [if_pos (by omega)] at h1
      rw [if_pos rfl]
      exact (bit_otb (row_getD hg (by omega)) ha).1 h1
    · rw [if_neg (by omega)] at h1
      rw [if_neg hq]
      exact (bit_otb (row_getD hg (by omega)) (row_getD hg (by omega))).1 h1
theorem fast_len5 (h p : List UInt8) (n : Nat) : (fastL h p n).length % 5 ≠ 1 ∧ (fastL h p n).length ≤ 32 := by
  have h3 : (fastL h p n).length = (tailL h p n).length + ((tailL h p n).length + 3) / 4 := (unfix_fix (tailL h p n) (lastB p) _ (Nat.le_refl _)).2
  have h2 : (tailL h p n).length = 21 ∨ (tailL h p n).length = 25 := by
    rw [tailL_len]
    unfold endK
    split
    · right; rfl
    · left; rfl
  rw [h3]; omega
theorem next_lenE (b : List UInt8) (S : RS) (n : Nat) (h : (nextP b S n).2.fl = 0) : (nextP b S n).1.length = n := by
  unfold nextP at h ⊢
  split
  · rename_i h1
    rw [if_pos h1] at h
    split
    · rename_i h2; rw [if_pos h2] at h; exact absurd h (by simp)
    · simp; omega
  · rename_i h1; rw [if_neg h1] at h; exact absurd h h1
theorem fixed_same (b : List UInt8) (hb : rowB b = true) (S : RS) (n : Nat) (h0 : S.fl = 0) (hu : 0 < S.u) (hub : S.u ≤ b.length) : fixedP b S n = fixedJ b S n := by
  unfold fixedP fixedJ
  rw [if_pos h0]
  have hL := fast_len5 S.o (b.take S.u) n
  generalize fastL S.o (b.take S.u) n = W at *
  have hr := nextP_row b hb S W.length
  have hle := next_lenE b S W.length
  have ha : bit (lastB (b.take S.u)) = true := row_getD (rowB_take hb _) (by rw [List.length_take]; omega)
  generalize lastB (b.take S.u) = a at *
  generalize nextP b S W.length = N at *
  obtain ⟨g, T⟩ := N
  simp only at hr hle ⊢
  by_cases hT : T.fl = 0
  · have hgl := hle hT
    rw [fxJ_eq, mustM_eq]
    by_cases hok : okF g 0 a = true
    · rw [if_pos ((fix_is g a (by rw [hgl]; exact hL.1)).2 hok), if_pos ((fx_ok g a hr ha).2 hok)]
      by_cases hx : g = W
      · rw [if_pos hx, if_pos (by simpa using hx)]
      · rw [if_neg hx, if_neg (by simpa using hx)]
    · have hf : (failP T 5).fl ≠ 0 := failP_fl T (by decide)
      rw [if_neg (fun h => hok ((fix_is g a (by rw [hgl]; exact hL.1)).1 h)), if_neg (fun h => hok ((fx_ok g a hr ha).1 h)), failP_bad hf, ite_self]
  · rw [failP_bad hT, failP_bad hT, fxJ_eq, failP_bad hT, mustM_eq]
    simp only [ite_self, failP_bad hT]
theorem end_same (b : List UInt8) (S : RS) : endP b S = endJ b S := by
  unfold endP endJ
  rw [mustM_eq]
  by_cases h : (nextP b S 10).1 = onesL ∨ (nextP b S 10).1 = heardL
  · rw [if_pos h, if_pos (by simpa using h)]
  · rw [if_neg h, if_neg (by simpa using h)]
theorem end_bad {b : List UInt8} {S : RS} (h : S.fl ≠ 0) : endJ b S = S := by unfold endJ; rw [nextP_bad h, mustM_bad h]
theorem formJ_bad {b : List UInt8} {S : RS} (h : S.fl ≠ 0) (lo re : Bool) : (formJ b S lo re).1 = S := by
  unfold formJ
  rw [bitM_bad h, if_neg (by simp)]
  show (if lo = true then wj b S 48 else S) = S
  rw [wj_bad h, ite_self]
theorem dataJ_bad {b : List UInt8} {S : RS} (h : S.fl ≠ 0) (fa re : Bool) : (dataJ b S fa re).S = S := by
  have e2 : dj2 b S fa = S := by unfold dj2; rw [numJ_bad h, mustM_bad h]
  unfold dataJ
  rw [e2]
  have hdl : ∀ j, (dlJ b S j).1 = S := by
    intro j
    induction j with
    | zero => rfl
    | succ j ih => rw [dlJ, ih, if_neg h, ih]
  split
  · rfl
  · exact hdl _
theorem dataP_bad {b : List UInt8} {S : RS} (h : S.fl ≠ 0) (fa re : Bool) : (dataP b S fa re).S = S := by
  have e1 : (numP b S 4).2 = S := by unfold numP; rw [takeP_bad h]
  have e2 : dt2 b S fa = S := by unfold dt2; rw [e1]; split; exact failP_bad h 4; rfl
  unfold dataP
  rw [e2]
  split
  · rfl
  · show (takeP b _ _).2 = _; rw [takeP_bad h]
theorem sumP_bad {b : List UInt8} {S : RS} (h : S.fl ≠ 0) : sumP b S = S := by
  unfold sumP; rw [takeP_bad h]
  split
  · rfl
  · exact failP_bad h 6
theorem fixedP_bad {b : List UInt8} {S : RS} (h : S.fl ≠ 0) (n : Nat) : fixedP b S n = S := by unfold fixedP; rw [if_neg h]
theorem form_fast (b : List UInt8) (S : RS) (lo re : Bool) (h : (formJ b S lo re).1.fl = 0) : ¬ ((formJ b S lo re).2 = true ∧ re = true) := by
  rintro ⟨h1, rfl⟩
  unfold formJ at h h1
  split at h1
  · rename_i hx
    rw [if_pos hx] at h
    have e : mustM (bitM b S).2 (!true) 4 = failP (bitM b S).2 4 := by rw [mustM_eq]; rfl
    have hf : (failP (bitM b S).2 4).fl ≠ 0 := by
      unfold failP
      split
      · simp
      · assumption
    simp only [e] at h
    rw [wj_bad hf, wj_bad hf, wj_bad hf] at h
    exact hf h
  · exact absurd h1 (by simp)
theorem Good.name {b : List UInt8} {S : RS} (hG : Good b S) : Good b (nameP b S).S := by
  have g1 : Good b (nm1 b S) := by unfold nm1 wantP; exact hG.wstep 48
  have g2 : Good b (nmN b S).2 := g1.take 11
  have g3 : Good b (nmF b S).2 := g2.take 1
  have g4 : Good b (nmL b S).2 := g3.take 1
  have g5 : Good b (nm5 b S) := by unfold nm5; split; exact g4; exact g4.fail (by decide)
  have g6 : Good b (nmM b S).2 := g5.take 18
  have g7 : Good b (nmR b S).2 := g6.take 1
  unfold nameP
  split
  · exact g7
  · exact g4
theorem Good.want {b : List UInt8} : ∀ (l : List UInt8) {S : RS}, Good b S → Good b (wantP b S l)
  | [], _, h => h
  | c :: l, _, h => Good.want l (h.wstep c)
theorem Good.form {b : List UInt8} {S : RS} (hG : Good b S) (lo re : Bool) : Good b (formP b S lo re).1 := by
  unfold formP
  split
  · simp only
    split
    · exact (hG.take 1).fail (by decide)
    · exact Good.want _ (hG.take 1)
  · simp only
    split
    · exact Good.want _ (hG.take 1)
    · exact hG.take 1
theorem Good.data {b : List UInt8} {S : RS} (hG : Good b S) (fa re : Bool) : Good b (dataP b S fa re).S := by
  have g2 : Good b (dt2 b S fa) := by
    unfold dt2
    split
    · exact (hG.take 4).fail (by decide)
    · exact hG.take 4
  unfold dataP
  split
  · exact g2
  · exact g2.take _
/-- both ways of reading answer the same -/
theorem read_same (b : List UInt8) (hb : rowB b = true) (hU : (rdD b).S.fl = 0 → 0 < (rdD b).S.u ∧ (rdD b).S.u ≤ b.length) : (rdE b).fl = (jdE b).fl ∧ ((rdE b).fl = 0 → (rdE b).u = (jdE b).u ∧ rdF b = jdF b) := by
  obtain ⟨a1, a2⟩ := name_same b ⟨0, 0, []⟩ (Good.start b)
  have gA : Good b (rdA b).S := Good.name (Good.start b)
  by_cases hA : (rdA b).S.fl = 0
  · have eA : rdA b = jdA b := a2 hA
    have eB : rdB b = jdB b := by unfold rdB jdB; rw [eA]; exact form_same _ _ _ _
    have gB : Good b (rdB b).1 := gA.form _ _
    by_cases hB : (rdB b).1.fl = 0
    · have hf : ¬ ((rdB b).2 = true ∧ (rdA b).re = true) := by
        rw [eB, eA]
        exact form_fast b _ _ _ (by have := hB; rw [eB] at this; exact this)
      obtain ⟨d1, d2⟩ := data_same b hb (rdB b).1 (rdB b).2 (rdA b).re gB hf
      have gD : Good b (rdD b).S := gB.data _ _
      have hJD : jdD b = dataJ b (rdB b).1 (rdB b).2 (rdA b).re := by unfold jdD; rw [eB, eA]
      by_cases hD : (rdD b).S.fl = 0
      · have eD : rdD b = jdD b := by rw [hJD]; exact d2 hD
        have eS : Eqv (rdS b) (jdS b) := by
          unfold rdS jdS
          rw [← eD, ← eB, if_pos hD]
          split
          · rw [fixed_same b hb _ _ hD (hU hD).1 (hU hD).2]; exact Eqv.refl _
          · exact sum_same b _ gD
        have eE : Eqv (rdE b) (jdE b) := by
          unfold rdE jdE
          rw [end_same]
          by_cases h : (rdS b).fl = 0
          · rw [eS.2 h]; exact Eqv.refl _
          · have h' : (jdS b).fl ≠ 0 := by rw [← eS.1]; exact h
            rw [end_bad h, end_bad h']; exact eS
        refine ⟨eE.1, fun h => ⟨by rw [eE.2 h], ?_⟩⟩
        unfold rdF jdF
        rw [eA, eB, eD]
      · have hD' : (jdD b).S.fl ≠ 0 := by rw [hJD, ← d1.1]; exact hD
        have e1 : rdE b = (rdD b).S := by
          have : rdS b = (rdD b).S := by unfold rdS; split; exact fixedP_bad hD _; exact sumP_bad hD
          unfold rdE; rw [this, end_same, end_bad hD]
        have e2 : jdE b = (jdD b).S := by
          have : jdS b = (jdD b).S := by unfold jdS; rw [if_neg hD']
          unfold jdE; rw [this, end_bad hD']
        rw [e1, e2]
        exact ⟨by rw [hJD]; exact d1.1, fun h => absurd h hD⟩
    · have hB' : (jdB b).1.fl ≠ 0 := by rw [← eB]; exact hB
      have e0 : (rdD b).S = (rdB b).1 := dataP_bad hB _ _
      have e0' : (jdD b).S = (jdB b).1 := dataJ_bad hB' _ _
      have hD : (rdD b).S.fl ≠ 0 := by rw [e0]; exact hB
      have hD' : (jdD b).S.fl ≠ 0 := by rw [e0']; exact hB'
      have e1 : rdE b = (rdD b).S := by
        have : rdS b = (rdD b).S := by unfold rdS; split; exact fixedP_bad hD _; exact sumP_bad hD
        unfold rdE; rw [this, end_same, end_bad hD]
      have e2 : jdE b = (jdD b).S := by
        have : jdS b = (jdD b).S := by unfold jdS; rw [if_neg hD']
        unfold jdE; rw [this, end_bad hD']
      rw [e1, e2, e0, e0', eB]
      exact ⟨rfl, fun h => absurd h hB'⟩
  · have hA' : (jdA b).S.fl ≠ 0 := by
      have : (jdA b).S.fl = (rdA b).S.fl := a1.1.symm
      rw [this]; exact hA
    have b0 : (rdB b).1 = (rdA b).S := by unfold rdB; rw [form_same]; exact formJ_bad hA _ _
    have b0' : (jdB b).1 = (jdA b).S := formJ_bad hA' _ _
    have hB : (rdB b).1.fl ≠ 0 := by rw [b0]; exact hA
    have hB' : (jdB b).1.fl ≠ 0 := by rw [b0']; exact hA'
    have e0 : (rdD b).S = (rdB b).1 := dataP_bad hB _ _
    have e0' : (jdD b).S = (jdB b).1 := dataJ_bad hB' _ _
    have hD : (rdD b).S.fl ≠ 0 := by rw [e0]; exact hB
    have hD' : (jdD b).S.fl ≠ 0 := by rw [e0']; exact hB'
    have e1 : rdE b = (rdD b).S := by
      have : rdS b = (rdD b).S := by unfold rdS; split; exact fixedP_bad hD _; exact sumP_bad hD
      unfold rdE; rw [this, end_same, end_bad hD]
    have e2 : jdE b = (jdD b).S := by
      have : jdS b = (jdD b).S := by unfold jdS; rw [if_neg hD']
      unfold jdE; rw [this, end_bad hD']
    rw [e1, e2, e0, e0', b0, b0']
    exact ⟨a1.1, fun h => absurd h hA⟩
end Bw
end Go.Proofs.YthdhhmflfdbkhaaGreatDoor

/- What stays true while the document's own reading goes on: plain facts on lists; of no program. -/
namespace Go.Proofs.YthdhhmflfdbkhaaGreatDoor
namespace Bw
open Bm Cm
theorem Inv.bit {b : List UInt8} {S : RS} {n : Nat} (hb : rowB b = true) (h : Inv b S n) : Inv b (bitM b S).2 (n + 1) := by
  rw [← (bit_take b S).1]; exact h.take hb 1
theorem Inv.must {b : List UInt8} {S : RS} {n : Nat} (h : Inv b S n) (ok : Bool) (e : Int) : Inv b (mustM S ok e) n := by
  rw [mustM_eq]
  split
  · exact h
  · exact h.fail e
theorem Inv.wj {b : List UInt8} {S : RS} {n : Nat} (hb : rowB b = true) (h : Inv b S n) (c : UInt8) : Inv b (Bw.wj b S c) (n + 1) := (h.bit hb).must _ _
theorem Inv.tJ {b : List UInt8} {S : RS} {n : Nat} (hb : rowB b = true) (h : Inv b S n) : ∀ k, Inv b (Bw.tJ b S k).2 (n + k)
  | 0 => h
  | k + 1 => (Inv.tJ hb h k).bit hb
theorem Inv.numJ {b : List UInt8} {S : RS} {n : Nat} (hb : rowB b = true) (h : Inv b S n) (k : Nat) : Inv b (Bw.numJ b S k).2 (n + k) := by
  rw [numJ_tJ]; exact h.tJ hb k
theorem Inv.dlJ {b : List UInt8} {S : RS} {n : Nat} (hb : rowB b = true) (h : Inv b S n) : ∀ k, Inv b (Bw.dlJ b S k).1 (n + 8 * k)
  | 0 => h
  | k + 1 => by
    have ih := Inv.dlJ hb h k
    rw [Bw.dlJ]
    split
    · exact (ih.numJ hb 8).up (by omega)
    · exact ih.up (by omega)
theorem dlJ_len (b : List UInt8) (S : RS) : ∀ k, (Bw.dlJ b S k).2.length ≤ k
  | 0 => Nat.le_refl _
  | k + 1 => by
    have ih := dlJ_len b S k
    rw [Bw.dlJ]
    split
    · simp; omega
    · omega
/-- where nothing is wrong behind the data, all was read alike -/
theorem data_all (b : List UInt8) (hb : rowB b = true) (h : (jdD b).S.fl = 0) : rdA b = jdA b ∧ rdB b = jdB b ∧ rdD b = jdD b := by
  obtain ⟨a1, a2⟩ := name_same b ⟨0, 0, []⟩ (Good.start b)
  have gA : Good b (rdA b).S := Good.name (Good.start b)
  have hB : (jdB b).1.fl = 0 := by
    rcases Classical.em ((jdB b).1.fl = 0) with x | x
    · exact x
    · have : (jdD b).S = (jdB b).1 := dataJ_bad x _ _
      rw [this] at h; exact h
  have hA : (jdA b).S.fl = 0 := by
    rcases Classical.em ((jdA b).S.fl = 0) with x | x
    · exact x
    · have : (jdB b).1 = (jdA b).S := formJ_bad x _ _
      rw [this] at hB; exact hB
  have eA : rdA b = jdA b := a2 (by have : (rdA b).S.fl = (jdA b).S.fl := a1.1; exact this.trans hA)
  have eB : rdB b = jdB b := by unfold rdB jdB; rw [eA]; exact form_same _ _ _ _
  have gB : Good b (rdB b).1 := gA.form _ _
  have hf : ¬ ((rdB b).2 = true ∧ (rdA b).re = true) := by
    rw [eB, eA]
    exact form_fast b _ _ _ hB
  obtain ⟨d1, d2⟩ := data_same b hb (rdB b).1 (rdB b).2 (rdA b).re gB hf
  have hJD : jdD b = dataJ b (rdB b).1 (rdB b).2 (rdA b).re := by unfold jdD; rw [eB, eA]
  refine ⟨eA, eB, ?_⟩
  rw [hJD]
  refine d2 (d1.1.trans ?_)
  rw [← hJD]; exact h
end Bw
end Go.Proofs.YthdhhmflfdbkhaaGreatDoor

/- What stays true through the document's own reading, part by part: plain facts on lists; of no program. -/
namespace Go.Proofs.YthdhhmflfdbkhaaGreatDoor
namespace Bw
open Bm Cm
theorem nameJ_inv (b : List UInt8) (hb : rowB b = true) : Inv b (jdA b).S 33 := by
  have i0 := Inv.start b
  have i2 : Inv b (jA b ⟨0, 0, []⟩) 1 := i0.wj hb 48
  have i3 : Inv b (jN b ⟨0, 0, []⟩).2 12 := i2.numJ hb 11
  have i4 : Inv b (jF b ⟨0, 0, []⟩).2 13 := i3.bit hb
  have i5 : Inv b (jL b ⟨0, 0, []⟩).2 14 := i4.bit hb
  have i6 : Inv b (j5 b ⟨0, 0, []⟩) 14 := i5.must _ _
  have i7 : Inv b (jM b ⟨0, 0, []⟩).2 32 := i6.numJ hb 18
  have i8 : Inv b (jR b ⟨0, 0, []⟩).2 33 := i7.bit hb
  unfold jdA nameJ
  split
  · exact i8
  · exact i5.up (by omega)
theorem formJ_inv (b : List UInt8) (hb : rowB b = true) : Inv b (jdB b).1 37 := by
  have i0 := nameJ_inv b hb
  have i1 := i0.bit hb
  unfold jdB formJ
  split
  · exact (((i1.must _ _).wj hb 48).wj hb 49).wj hb 48
  · simp only
    split
    · exact (i1.wj hb 48).up (by omega)
    · exact i1.up (by omega)
theorem dj2_inv (b : List UInt8) (hb : rowB b = true) (fa : Bool) : Inv b (dj2 b (jdB b).1 fa) 41 := ((formJ_inv b hb).numJ hb 4).must _ _
theorem num4_le (b : List UInt8) (hb : rowB b = true) (S : RS) : (numJ b S 4).1 ≤ 15 := by
  have := numJ_lt b hb S 4
  omega
theorem dataJ_inv (b : List UInt8) (hb : rowB b = true) : Inv b (jdD b).S 553 := by
  have i := dj2_inv b hb (jdB b).2
  have h64 : sizesL.getD (numJ b (jdB b).1 4).1 0 ≤ 64 := by
    have : ∀ m : Fin 16, sizesL.getD m.val 0 ≤ 64 := by decide +kernel
    exact this ⟨_, Nat.lt_succ_of_le (num4_le b hb (jdB b).1)⟩
  unfold jdD dataJ
  generalize sizesL.getD (numJ b (jdB b).1 4).1 0 = m at *
  cases (jdA b).re
  · have h := i.dlJ hb m
    simp only [Bool.false_eq_true, if_false]
    exact h.up (by omega)
  · simp only [if_true]
    exact i.up (by omega)
/-- behind the sum -/
def jd4 (b : List UInt8) : RS := if (jdD b).S.fl = 0 then (if (jdB b).2 then (jdD b).S else sumJ b (jdD b).S) else (jdD b).S
theorem jd4_S (b : List UInt8) : (if (jd4 b).fl = 0 then (if (jdB b).2 then fixedJ b (jd4 b) (jdD b).dt.length else jd4 b) else jd4 b) = jdS b := by
  unfold jd4 jdS
  by_cases h : (jdD b).S.fl = 0
  · rw [if_pos h, if_pos h]
    cases hf : (jdB b).2
    · simp
    · simp [h]
  · rw [if_neg h, if_neg h, if_neg h]
theorem jdS_inv (b : List UInt8) (hb : rowB b = true) : Inv b (jdS b) 568 := by
  have i := dataJ_inv b hb
  unfold jdS
  split
  · split
    · unfold fixedJ
      refine Inv.must ?_ _ _
      rw [fxJ_eq]
      split
      · exact (i.next _).up (by omega)
      · exact ((i.next _).fail 5).up (by omega)
    · exact (i.tJ hb 15).must _ _
  · exact i.up (by omega)
theorem jdU (b : List UInt8) (hb : rowB b = true) (h : (jdD b).S.fl = 0) : 1 ≤ (jdD b).S.u ∧ (jdD b).S.u ≤ 900 ∧ (jdD b).S.u ≤ b.length ∧ (jdD b).S.o.length ≤ (jdD b).S.u ∧ (jdD b).dt.length ≤ 64 := by
  obtain ⟨-, -, e⟩ := data_all b hb h
  have iA := name_inv hb (Inv.start b) Mst.start
  have iB := form_inv hb iA.1 iA.2.1 (rdA b).lo (rdA b).re
  have iD := data_inv hb iB.1 iB.2.1 (rdB b).2 (rdA b).re
  have hdl := data_len b hb (rdB b).1 (rdB b).2 (rdA b).re
  have h1 : Inv b (rdD b).S (0 + 33 + 4 + 516) := iD.1
  have h2 : Mst (rdD b).S := iD.2.1
  have h3 : Fed (rdD b).S := iD.2.2
  have h4 : (rdD b).dt.length ≤ 64 := hdl
  rw [e] at h1 h2 h3 h4
  have := h3 h
  unfold Mst at h2
  have a1 := h1.ou
  have a2 := h1.n
  have a3 := h1.u
  refine ⟨by omega, by omega, a3, a1, h4⟩
end Bw
end Go.Proofs.YthdhhmflfdbkhaaGreatDoor

/- What the document's own TakeBits answers of a row and a number. -/
namespace Go.Proofs.YthdhhmflfdbkhaaGreatDoor
open Go.ChangeShapes Go.WideShapes Go.ChangeAt Go.RowKit
namespace Bw
open Bm

def lenOf : Value → Nat | .string s => s.size | _ => 0

set_option maxHeartbeats 1000000 in
theorem same_any (t : ByteArray) (c : UInt8) (w : World) (h0 : 0 < t.size) (hm : t.size ≤ 1000) (hc : t[0] = c) :
    Calls Tryz.prog 66 #[.string t] w fun e w' => e = .returned (.bool ((Lib.countByte t.data.toList c : Int) == (t.size : Int))) ∧ w' = w := by
  have hsl : ∀ W, (Instr.slice 9 (.string t) none (some (.int .i64 1)) none).run Tryz.prog W = .ok (.string ⟨#[c]⟩) W := by
    intro W
    rw [run_slice_string_h W _ t Tryz.underlying9 .i64 _ (by omega) (by omega)]
    rw [show t.extract 0 (1 : Int).toNat = ⟨#[c]⟩ by rw [← hc]; exact one_at t 0 h0]
  have hcn := fun W => Tryz.strings_Count_one t c W
  generalize Lib.countByte t.data.toList c = q at *
  clear hc
  go_enter Tryz.func66, Tryz.ntmps66
  go_wp2_with fail
  refine (hcn _).mono ?_
  rintro e w1 ⟨rfl, hw1⟩
  subst hw1
  clear hcn
  go_wp2_with fail
  go_ret
  exact ⟨rfl, rfl⟩

set_option maxHeartbeats 8000000 in
theorem takeBits_any (s : ByteArray) (n : Nat) (w : World) (h1000 : s.size ≤ 1000) (hn : n ≤ 1000) :
    Calls Tryz.prog 32 #[.string s, .int .i64 n] w fun e w' => e = .returned (takeV (takeG s.data.toList n 0 [])) ∧ Below w.heap.size w w' := by
  obtain ⟨A, hA⟩ : ∃ A, A = takeG s.data.toList n 0 [] := ⟨_, rfl⟩
  rw [← hA]
  have HA := Hid.mk hA
  clear hA
  have hll : s.data.toList.length = s.size := by simp
  have HLL := Hid.mk hll
  clear hll
  go_enter Tryz.func32, Tryz.ntmps32
  go_wp2_with fail
  go_loopw [7, 8] (fun r i wr => ∃ (u : Nat) (sb : ByteArray), u ≤ s.size ∧ sb.size ≤ n ∧ i = .int .i64 u ∧ r = .string sb ∧ (endR (s.data.toList.take u)).2 ≤ 4 ∧ takeG s.data.toList (n - sb.size) u sb.data.toList = A ∧ Below w.heap.size w wr) (fun r _ _ => n - lenOf r)
  case atStart => exact ⟨0, ⟨#[]⟩, Nat.zero_le _, Nat.zero_le _, rfl, rfl, by simp [endR], HA.out.symm, Below.refl _ _⟩
  case round =>
    obtain ⟨u, sb, hu, hsn, rfl, rfl, h4, hG, hbel⟩ := hrel
    have HG := Hid.mk hG
    have H4 := Hid.mk h4
    clear hG h4
    by_cases hkn : sb.size < n
    · have hkn' : (sb.size : Int) < (n : Int) := by omega
      have hm : n - sb.size = (n - (sb.size + 1)) + 1 := by omega
      have HM := Hid.mk hm
      clear hm
      by_cases hlt : u < s.size
      · have hlt' : (u : Int) < (s.size : Int) := by omega
        obtain ⟨c, hcE⟩ : ∃ c, c = s[u] := ⟨_, rfl⟩
        have hgd : s.data.toList.getD u 0 = c := by rw [hcE, at_getD s u hlt]
        have HGD := Hid.mk hgd
        have hcv : s[u] = c := hcE.symm
        have hsl : ∀ W, (Instr.slice 9 (.string s) (some (.int .i64 (u : Int))) (some (.int .i64 ((u : Int) + 1))) none).run Tryz.prog W = .ok (.string ⟨#[c]⟩) W := by
          intro W
          rw [run_slice_string W _ s _ _ _ _ Tryz.underlying9 (by omega) (by omega) (by omega)]
          rw [show s.extract (u : Int).toNat ((u : Int) + 1).toNat = ⟨#[c]⟩ by rw [show (u : Int).toNat = u by omega, show ((u : Int) + 1).toNat = u + 1 by omega, one_at s u hlt, hcE]]
        have hon := end_on s.data.toList u (by rw [HLL.out]; exact hlt) H4.out
        have hfive := end_five s.data.toList u (by rw [HLL.out]; exact hlt) H4.out
        have HON := Hid.mk hon
        have HFIVE := Hid.mk hfive
        have hXl : (sb ++ ⟨#[c]⟩).data.toList = sb.data.toList ++ [c] := ba_cat _ _
        have HXL := Hid.mk hXl
        have hXs : (sb ++ ⟨#[c]⟩).size = sb.size + 1 := by rw [ByteArray.size_append]; rfl
        have HXS := Hid.mk hXs
        have htl : (s.data.toList.take (u + 1)).length = u + 1 := by rw [List.length_take, HLL.out]; omega
        have HTL := Hid.mk htl
        clear hcE hgd hon hfive hXl hXs htl
        by_cases hge : 4 ≤ u
        · have hge' : (5 : Int) ≤ (u : Int) + 1 := by omega
          obtain ⟨t5, ht5⟩ : ∃ t5, t5 = s.extract (u - 4) (u + 1) := ⟨_, rfl⟩
          have hsl5 : ∀ W, (Instr.slice 9 (.string s) (some (.int .i64 ((u : Int) + 1 - 5))) (some (.int .i64 ((u : Int) + 1))) none).run Tryz.prog W = .ok (.string t5) W := by
            intro W
            rw [run_slice_string W _ s _ _ _ _ Tryz.underlying9 (by omega) (by omega) (by omega)]
            rw [show ((u : Int) + 1 - 5).toNat = u - 4 by omega, show ((u : Int) + 1).toNat = u + 1 by omega, ht5]
          have ht5s : t5.size = 5 := by rw [ht5, ByteArray.size_extract]; omega
          have ht5l : t5.data.toList = (s.data.toList.take (u + 1)).drop ((s.data.toList.take (u + 1)).length - 5) := by
            have e2 := extract_list s (u - 4) 5
            rw [show u - 4 + 5 = u + 1 by omega] at e2
            rw [ht5, e2, HTL.out, show u + 1 - 5 = u - 4 by omega, List.drop_take, show u + 1 - (u - 4) = 5 by omega]
          obtain ⟨d, hdE⟩ : ∃ d, d = t5[0] := ⟨_, rfl⟩
          have hcnt : Lib.countByte t5.data.toList d = 5 ↔ (endR (s.data.toList.take (u + 1))).2 = 5 := by
            have hd0 : (s.data.toList.take (u + 1)).getD ((s.data.toList.take (u + 1)).length - 5) 0 = d := by
              rw [hdE, at_getD t5 0 (by omega), ht5l]
              simp [List.getD]
            rw [ht5l]
            exact five_iff' _ HFIVE.out (by rw [HTL.out]; omega) d hd0
          have hsame := fun W => same_any t5 d W (by omega) (by omega) hdE.symm
          rw [ht5s] at hsame
          generalize Lib.countByte t5.data.toList d = q at *
          have HSAME := Hid.mk hsame
          have HCNT := Hid.mk hcnt
          clear hsame hcnt ht5l ht5s ht5 hdE
          go_wp2_with fail
          refine (HSAME.out _).mono ?_
          rintro e w1 ⟨rfl, hw1⟩
          subst hw1
          clear HSAME hsl5 hsl
          by_cases h5 : (endR (s.data.toList.take (u + 1))).2 = 5
          · have hq : ((q : Int) == ((5 : Nat) : Int)) = true := by rw [HCNT.out.2 h5]; rfl
            have H5 := Hid.mk h5
            clear h5
            by_cases hlt2 : u + 1 < s.size
            · have hlt2' : (u : Int) + 1 < (s.size : Int) := by omega
              obtain ⟨d2, hd2E⟩ : ∃ d2, d2 = s[u + 1] := ⟨_, rfl⟩
              have hgd2 : s.data.toList.getD (u + 1) 0 = d2 := by rw [hd2E, at_getD s (u + 1) hlt2]
              have HGD2 := Hid.mk hgd2
              have hdv : s[u + 1] = d2 := hd2E.symm
              clear hd2E hgd2
              by_cases h6 : d2 = c
              · have h6' : ((d2.toNat : Int) == (c.toNat : Int)) = true := by rw [h6]; simp
                have hfin : A = ([], 0, 5) := by
                  rw [← HG.out, HM.out]
                  exact takeG_six _ _ _ _ (by rw [HLL.out]; exact hlt2) H5.out (by rw [HGD.out, HGD2.out]; exact h6)
                subst hfin
                clear h6
                go_wp2_with fail
                go_quiet (fail)
                go_wp2_with fail
                go_ret3
                exact ⟨rfl, hbel.trans ⟨rfl, rfl, rfl, Nat.le_refl _, fun _ _ => rfl⟩⟩
              · have h6' : ((d2.toNat : Int) == (c.toNat : Int)) = false := by
                  have : d2.toNat ≠ c.toNat := fun h => h6 (UInt8.toNat_inj.1 h)
                  rw [beq_eq_false_iff_ne]; omega
                have hG2 : takeG s.data.toList (n - (sb ++ ⟨#[c]⟩).size) (u + 2) (sb ++ ⟨#[c]⟩).data.toList = A := by
                  rw [HXS.out, HXL.out, ← HG.out, HM.out, takeG_on5 _ _ _ _ (by rw [HLL.out]; exact hlt2) H5.out (by rw [HGD.out, HGD2.out]; exact h6), HGD.out]
                have HG2 := Hid.mk hG2
                have hon := end_on5 s.data.toList u (by rw [HLL.out]; exact hlt2) (by rw [HGD.out, HGD2.out]; exact h6)
                have hon' : (endR (s.data.toList.take (u + 2))).2 ≤ 4 := by rw [hon]; simp
                have HON2 := Hid.mk hon'
                clear h6 hG2 hon hon'
                go_wp2_with fail
                go_quiet (fail)
                go_wp2_with fail
                go_roundw
                case rel => exact ⟨u + 2, sb ++ ⟨#[c]⟩, by omega, by rw [HXS.out]; omega, int_eq (by omega), rfl, HON2.out, HG2.out, hbel.trans ⟨rfl, rfl, rfl, Nat.le_refl _, fun _ _ => rfl⟩⟩
                case measure => show n - (sb ++ ⟨#[c]⟩).size < n - sb.size; rw [HXS.out]; omega
            · have hlt2' : ((u : Int) + 1 == (s.size : Int)) = true := by simp; omega
              have hfin : A = ([], 0, 7) := by
                rw [← HG.out, HM.out]
                exact takeG_end5 _ _ _ _ (by rw [HLL.out]; omega) H5.out
              subst hfin
              go_wp2_with fail
              go_ret3
              exact ⟨rfl, hbel⟩
          · have hq : ((q : Int) == ((5 : Nat) : Int)) = false := by
              rw [beq_eq_false_iff_ne]
              exact fun e => h5 (HCNT.out.1 (by omega))
            have hG2 : takeG s.data.toList (n - (sb ++ ⟨#[c]⟩).size) (u + 1) (sb ++ ⟨#[c]⟩).data.toList = A := by
              rw [HXS.out, HXL.out, ← HG.out, HM.out, takeG_on _ _ _ _ (by rw [HLL.out]; exact hlt) h5, HGD.out]
            have HG2 := Hid.mk hG2
            have hon := HON.out h5
            have HON2 := Hid.mk hon
            clear h5 hG2 hon
            go_wp2_with fail
            go_roundw
            case rel => exact ⟨u + 1, sb ++ ⟨#[c]⟩, by omega, by rw [HXS.out]; omega, int_eq (by omega), rfl, HON2.out, HG2.out, hbel⟩
            case measure => show n - (sb ++ ⟨#[c]⟩).size < n - sb.size; rw [HXS.out]; omega
        · have hge' : decide ((5 : Int) ≤ (u : Int) + 1) = false := by simp; omega
          have h5 : (endR (s.data.toList.take (u + 1))).2 ≠ 5 := by
            have := endR_le (s.data.toList.take (u + 1))
            rw [HTL.out] at this
            omega
          have hG2 : takeG s.data.toList (n - (sb ++ ⟨#[c]⟩).size) (u + 1) (sb ++ ⟨#[c]⟩).data.toList = A := by
            rw [HXS.out, HXL.out, ← HG.out, HM.out, takeG_on _ _ _ _ (by rw [HLL.out]; exact hlt) h5, HGD.out]
          have HG2 := Hid.mk hG2
          have hon := HON.out h5
          have HON2 := Hid.mk hon
          clear h5 hG2 hon
          go_wp2_with fail
          go_roundw
          case rel => exact ⟨u + 1, sb ++ ⟨#[c]⟩, by omega, by rw [HXS.out]; omega, int_eq (by omega), rfl, HON2.out, HG2.out, hbel⟩
          case measure => show n - (sb ++ ⟨#[c]⟩).size < n - sb.size; rw [HXS.out]; omega
      · have hlt' : ((u : Int) == (s.size : Int)) = true := by simp; omega
        have hfin : A = ([], 0, 7) := by
          rw [← HG.out, HM.out]
          exact takeG_end _ _ _ _ (by rw [HLL.out]; omega)
        subst hfin
        go_wp2_with fail
        go_ret3
        exact ⟨rfl, hbel⟩
    · have e : sb.size = n := by omega
      have hge : (n : Int) ≤ (sb.size : Int) := by omega
      have hge2 : decide ((sb.size : Int) < (n : Int)) = false := by rw [decide_eq_false_iff_not]; omega
      have hfin : A = (sb.data.toList, u, 0) := by rw [← HG.out, e, Nat.sub_self, takeG_zero]
      have hfin2 : takeV A = .tuple #[.string sb, .int .i64 u, .int .i64 0] := by
        rw [hfin]; unfold takeV; simp only [← ba_eq (show sb.data.toList = sb.data.toList from rfl)]
      have HF := Hid.mk hfin2
      clear hfin hfin2 e
      go_wp2_with fail
      go_ret3
      exact ⟨by rw [HF.out]; try rfl, hbel⟩
end Bw
end Go.Proofs.YthdhhmflfdbkhaaGreatDoor

/- What the four small functions inside the document's own ReadBits answer: a bit, a number, what must be, plain bits. -/
namespace Go.Proofs.YthdhhmflfdbkhaaGreatDoor
open Go.ChangeShapes Go.WideShapes Go.ChangeAt Go.RowKit
namespace Bw
open Bm Cm

structure RSt (w : World) (gb gh gf ga : Nat) (b : ByteArray) (S : RS) : Prop where
  b : BoxAt w gb 9 (.string b)
  h : BoxAt w gh 9 (.string ⟨S.o.toArray⟩)
  f : BoxAt w gf 25 (.int .i64 S.fl)
  a : BoxAt w ga 3 (.int .i64 S.u)
  ne : gb ≠ gh ∧ gb ≠ gf ∧ gb ≠ ga ∧ gh ≠ gf ∧ gh ≠ ga ∧ gf ≠ ga
theorem RSt.kept {w w' : World} {gb gh gf ga : Nat} {b : ByteArray} {S : RS} (h : RSt w gb gh gf ga b S) (hb : Below w.heap.size w w') : RSt w' gb gh gf ga b S :=
  ⟨h.b.kept hb, h.h.kept hb, h.f.kept hb, h.a.kept hb, h.ne⟩

set_option maxHeartbeats 2000000 in
theorem bit1_any (gb gh gf ga : Nat) (b : ByteArray) (S : RS) (w : World) (hS : RSt w gb gh gf ga b S) (h1000 : b.size ≤ 1000) (ho : S.o.length ≤ 999) :
    Calls Tryz.prog 31 #[.pointer (some ⟨gb, 0, none⟩), .pointer (some ⟨gh, 0, none⟩), .pointer (some ⟨gf, 0, none⟩), .pointer (some ⟨ga, 0, none⟩)] w fun e w' =>
      e = .returned (.string ⟨#[(bitM b.data.toList S).1]⟩) ∧ RSt w' gb gh gf ga b (bitM b.data.toList S).2 ∧ Tch [gh, gf, ga] w w' := by
  have hc1 := hS.b.cell
  have hc2 := hS.h.cell
  have hos : (ByteArray.mk S.o.toArray).size = S.o.length := mk_size _
  have ht := fun W => takeBits_any b (S.o.length + 1) W h1000 (by omega)
  have hok := takeG_ok b.data.toList (S.o.length + 1) 0 []
  unfold bitM
  generalize takeG b.data.toList (S.o.length + 1) 0 [] = A at *
  obtain ⟨o', u', er⟩ := A
  unfold takeV at ht
  simp only at ht ⊢
  have hol : er = 0 → o'.length = S.o.length + 1 := fun he => by
    have := (hok o' u' (by rw [he])).1
    simpa using this
  have hTs := mk_size o'
  have hTl := mk_list o'
  have hlast : (ByteArray.mk o'.toArray).data.toList.drop S.o.length = [o'.getD S.o.length 0] ∨ er ≠ 0 := by
    by_cases he : er = 0
    · left
      rw [hTl]
      have hl := hol he
      rw [List.drop_eq_getElem_cons (by omega), List.drop_of_length_le (by omega)]
      simp [List.getD, show S.o.length < o'.length by omega]
    · exact .inr he
  obtain ⟨T, hT⟩ : ∃ T, T = ByteArray.mk o'.toArray := ⟨_, rfl⟩
  rw [← hT] at ht hTs hTl hlast
  obtain ⟨H, hH⟩ : ∃ H, H = ByteArray.mk S.o.toArray := ⟨_, rfl⟩
  rw [← hH] at hc2 hos
  have harg : (H.size : Int) + 1 = ((S.o.length + 1 : Nat) : Int) := by omega
  have hHm : H.size ≤ 999 := by omega
  have HT := Hid.mk ht
  have HS := Hid.mk hS
  have HA := Hid.mk harg
  have HOL := Hid.mk hol
  have HTS := Hid.mk hTs
  have HTL := Hid.mk hTl
  have HLA := Hid.mk hlast
  have HTT := Hid.mk hT
  have HHH := Hid.mk hH
  clear ht hok hS hos harg hol hTs hTl hlast hT hH
  obtain ⟨n1, n2, n3, n4, n5, n6⟩ := HS.out.ne
  by_cases hf : S.fl = 0
  · rw [if_pos hf]
    by_cases he : er = 0
    · subst he
      have hol' := HOL.out rfl
      have hts' := HTS.out
      have HOS := Hid.mk (show T.size = S.o.length + 1 by omega)
      clear hol' hts'
      rw [if_pos rfl]
      go_enter Tryz.func31, Tryz.ntmps31
      go_wp2_with fail
      rw [HA.out]
      refine (HT.out w).mono ?_
      rintro e w1 ⟨rfl, hb1⟩
      have hS1 := HS.out.kept hb1
      have hc3 := hS1.f.cell
      have hz3 := hS1.f.frozen
      have hc4 := hS1.h.cell
      have hz4 := hS1.h.frozen
      have hc5 := hS1.a.cell
      have hz5 := hS1.a.frozen
      have HS1 := Hid.mk hS1
      have hT1 : Tch [gh, gf, ga] w w1 := Tch.of hb1
      clear hb1 hS1 hc1 hc2
      rw [hf] at hc3
      have hset := HS1.out.f.set (.int .i64 0)
      have hs1 := hset.cell
      have bk := HS1.out.h.other (.int .i64 0) n4
      have ba := HS1.out.a.other (.int .i64 0) (Ne.symm n6)
      have bb := HS1.out.b.other (.int .i64 0) n2
      have hk1 := bk.cell
      have hk2 := bk.frozen
      have hk3 := ba.cell
      have hk4 := ba.frozen
      have ba2 := ba.other (.string T) (Ne.symm n5)
      have hk5 := ba2.cell
      have hk6 := ba2.frozen
      have h3 := (hset.other (.string T) (Ne.symm n4)).other (.int .i64 u') n6
      have h2 := (bk.set (.string T)).other (.int .i64 u') n5
      have h1 := (bb.other (.string T) n1).other (.int .i64 u') n3
      have h4 := ba2.set (.int .i64 u')
      have HB := Hid.mk (And.intro h1 (And.intro h2 (And.intro h3 h4)))
      clear h1 h2 h3 h4 hset bk ba bb ba2
      have hTz : (1 : Int) ≤ (T.size : Int) := by have := HOS.out; omega
      have hTz2 : (T.size : Int) ≤ 1000 := by have := HOS.out; omega
      have hsl : ∀ W, (Instr.slice 9 (.string T) (some (.int .i64 ((T.size : Int) - 1))) none none).run Tryz.prog W = .ok (.string ⟨#[o'.getD S.o.length 0]⟩) W := by
        intro W
        rw [run_slice_string_l W _ T Tryz.underlying9 .i64 _ (by omega) (by omega)]
        have e1 : ((T.size : Int) - 1).toNat = S.o.length := by have := HOS.out; omega
        have e2 : T.size = S.o.length + 1 := by have := HOS.out; omega
        have e3 : (T.extract S.o.length T.size).data.toList = [o'.getD S.o.length 0] := by
          rw [e2, extract_list T S.o.length 1]
          rcases HLA.out with h | h
          · rw [h]; rfl
          · exact absurd rfl h
        rw [e1, ba_eq e3]
      go_wp2_with fail
      go_ret
      obtain ⟨h1, h2, h3, h4⟩ := HB.out
      refine ⟨rfl, ⟨h1, by rw [HTT.out] at h2 ⊢; exact h2, h3, h4, HS1.out.ne⟩, ((hT1.set (by simp) _).set (by simp) _).set (by simp) _⟩
    · rw [if_neg he]
      go_enter Tryz.func31, Tryz.ntmps31
      go_wp2_with fail
      rw [HA.out]
      refine (HT.out w).mono ?_
      rintro e w1 ⟨rfl, hb1⟩
      have hS1 := HS.out.kept hb1
      have hc3 := hS1.f.cell
      have hz3 := hS1.f.frozen
      have hc4 := hS1.h.cell
      have hz4 := hS1.h.frozen
      have hc5 := hS1.a.cell
      have hz5 := hS1.a.frozen
      have HS1 := Hid.mk hS1
      have hT1 : Tch [gh, gf, ga] w w1 := Tch.of hb1
      clear hb1 hS1 hc1 hc2
      rw [hf] at hc3
      have hs1 := (HS1.out.f.set (.int .i64 er)).cell
      have hne : (er != 0) = true := by simpa using he
      go_wp2_with fail
      go_ret
      refine ⟨rfl, ⟨HS1.out.b.other _ n2, HS1.out.h.other _ n4, HS1.out.f.set _, HS1.out.a.other _ (Ne.symm n6), HS1.out.ne⟩, hT1.set (by simp) _⟩
  · rw [if_neg hf]
    have h1 : (S.fl == 0) = false := by simpa using hf
    have h2 : (S.fl != 0) = true := by simpa using hf
    go_enter Tryz.func31, Tryz.ntmps31
    go_wp2_with fail
    rw [HA.out]
    refine (HT.out w).mono ?_
    rintro e w1 ⟨rfl, hb1⟩
    have hS1 := HS.out.kept hb1
    have hc3 := hS1.f.cell
    have hz3 := hS1.f.frozen
    have hc4 := hS1.h.cell
    have hz4 := hS1.h.frozen
    have hc5 := hS1.a.cell
    have hz5 := hS1.a.frozen
    have HS1 := Hid.mk hS1
    have hT1 : Tch [gh, gf, ga] w w1 := Tch.of hb1
    clear hb1 hS1 hc1 hc2
    go_wp2_with fail
    go_ret
    exact ⟨rfl, HS1.out, hT1⟩
end Bw
end Go.Proofs.YthdhhmflfdbkhaaGreatDoor

/- What the other small functions inside the document's own ReadBits answer: a number, what must be, plain bits. -/
namespace Go.Proofs.YthdhhmflfdbkhaaGreatDoor
open Go.ChangeShapes Go.WideShapes Go.ChangeAt Go.RowKit
namespace Bw
open Bm Cm

set_option maxHeartbeats 1000000 in
theorem must3_any (gb gh gf ga : Nat) (b : ByteArray) (S : RS) (ok : Bool) (x : Int) (w : World) (hS : RSt w gb gh gf ga b S) :
    Calls Tryz.prog 34 #[.bool ok, .int .i64 x, .pointer (some ⟨gf, 0, none⟩)] w fun e w' =>
      e = .returned (.tuple #[]) ∧ RSt w' gb gh gf ga b (mustM S ok x) ∧ Tch [gh, gf, ga] w w' := by
  have hc := hS.f.cell
  have hz := hS.f.frozen
  obtain ⟨n1, n2, n3, n4, n5, n6⟩ := hS.ne
  have HS := Hid.mk hS
  unfold mustM
  clear hS
  by_cases hf : S.fl = 0
  · rw [hf] at hc
    cases ok
    · rw [if_pos ⟨hf, rfl⟩]
      go_enter Tryz.func34, Tryz.ntmps34
      go_wp2_with fail
      go_end0
      exact ⟨rfl, ⟨HS.out.b.other _ n2, HS.out.h.other _ n4, HS.out.f.set _, HS.out.a.other _ (Ne.symm n6), HS.out.ne⟩, (Tch.refl _ _).set (by simp) _⟩
    · rw [if_neg (by simp)]
      go_enter Tryz.func34, Tryz.ntmps34
      go_wp2_with fail
      go_end0
      exact ⟨rfl, HS.out, Tch.refl _ _⟩
  · rw [if_neg (by simp [hf])]
    have h1 : (S.fl == 0) = false := by simpa using hf
    go_enter Tryz.func34, Tryz.ntmps34
    go_wp2_with fail
    go_end0
    exact ⟨rfl, HS.out, Tch.refl _ _⟩

/-- the value of the small function that takes a bit -/
def bitF (gb gh gf ga : Nat) : Value := .func (.func 31) #[] #[.pointer (some ⟨gb, 0, none⟩), .pointer (some ⟨gh, 0, none⟩), .pointer (some ⟨gf, 0, none⟩), .pointer (some ⟨ga, 0, none⟩)]

set_option maxHeartbeats 2000000 in
theorem num2_any (gb gh gf ga gq n : Nat) (b : ByteArray) (S : RS) (w : World) (hS : RSt w gb gh gf ga b S) (hq : BoxAt w gq 60 (bitF gb gh gf ga)) (hqn : gq ≠ gh ∧ gq ≠ gf ∧ gq ≠ ga) (h1000 : b.size ≤ 1000) (hb : rowB b.data.toList = true) (hn : n ≤ 20) (ho : S.o.length + n ≤ 999) :
    Calls Tryz.prog 33 #[.int .i64 n, .pointer (some ⟨gq, 0, none⟩)] w fun e w' =>
      e = .returned (.int .i64 (numJ b.data.toList S n).1) ∧ RSt w' gb gh gf ga b (numJ b.data.toList S n).2 ∧ Tch [gh, gf, ga] w w' := by
  have HS := Hid.mk hS
  have HB := Hid.mk hb
  have HQ := Hid.mk hq
  have hqn' : gq ∉ [gh, gf, ga] := by simp [hqn]
  have HQN := Hid.mk hqn'
  clear hS hb hq hqn hqn'
  go_enter Tryz.func33, Tryz.ntmps33
  go_wp2_with fail
  go_loopw [4, 6] (fun v i wr => ∃ j : Nat, j ≤ n ∧ i = .int .i64 j ∧ v = .int .i64 (numJ b.data.toList S j).1 ∧ RSt wr gb gh gf ga b (numJ b.data.toList S j).2 ∧ Tch [gh, gf, ga] w wr) (fun _ i _ => n - (intOf i).toNat)
  case atStart => exact ⟨0, Nat.zero_le _, rfl, rfl, HS.out, Tch.refl _ _⟩
  case round =>
    obtain ⟨j, hj, rfl, rfl, hSr, htr⟩ := hrel
    by_cases hlt : j < n
    · have hlt' : (j : Int) < (n : Int) := by omega
      have hbox := (htr.box HQ.out HQN.out).cell
      unfold bitF at hbox
      have hl := numJ_len b.data.toList S j
      have hbit := bit1_any gb gh gf ga b (numJ b.data.toList S j).2 wr hSr h1000 (by omega)
      have hv := numJ_lt b.data.toList HB.out S j
      have hv20 : (numJ b.data.toList S j).1 < 2 ^ 20 := Nat.lt_of_lt_of_le hv (Nat.pow_le_pow_right (by omega) (by omega))
      have hvb : ((numJ b.data.toList S j).1 : Int) ≤ 1048575 := by omega
      have hd := bitM_bit b.data.toList HB.out (numJ b.data.toList S j).2
      have hd1 := bit_dig hd
      have HN : Hid ((numJ b.data.toList S (j + 1)) = (2 * (numJ b.data.toList S j).1 + dig (bitM b.data.toList (numJ b.data.toList S j).2).1, (bitM b.data.toList (numJ b.data.toList S j).2).2)) := Hid.mk rfl
      generalize (numJ b.data.toList S j).1 = v at *
      generalize (bitM b.data.toList (numJ b.data.toList S j).2).1 = c at *
      generalize (bitM b.data.toList (numJ b.data.toList S j).2).2 = S' at *
      have hcn := (bit_iff c).1 hd
      have hc48 : (48 : Int) ≤ (c.toNat : Int) := by omega
      have hc49 : (c.toNat : Int) ≤ 49 := by omega
      have HBI := Hid.mk hbit
      have HD := Hid.mk hd1
      clear hbit hv hv20 hd hd1 hcn hl
      go_wp2_with fail
      refine HBI.out.mono ?_
      rintro e w1 ⟨rfl, hS1, ht1⟩
      have ht2 := htr.trans ht1
      clear ht1 htr hSr HBI hbox
      have hidx : (ByteArray.mk #[c])[0]'(show 0 < 1 from Nat.zero_lt_one) = c := rfl
      go_wp2_with fail
      go_roundw
      case rel =>
        exact ⟨j + 1, by omega, by go_num, by rw [HN.out]; exact int_eq (by have := HD.out.2; simp only; omega), by rw [HN.out]; exact hS1, ht2⟩
      case measure => simp [intOf]; omega
    · have e : j = n := by omega
      subst e
      go_wp2_with fail
      go_ret
      exact ⟨rfl, hSr, htr⟩

set_option maxHeartbeats 2000000 in
theorem plain4_any (gb gh gf ga n : Nat) (b : ByteArray) (S : RS) (w : World) (hS : RSt w gb gh gf ga b S) (h1000 : b.size ≤ 1000) (hu : S.u ≤ 2000) (hn : n ≤ 1000) :
    Calls Tryz.prog 37 #[.int .i64 n, .pointer (some ⟨gf, 0, none⟩), .pointer (some ⟨ga, 0, none⟩), .pointer (some ⟨gb, 0, none⟩)] w fun e w' =>
      e = .returned (.string ⟨(nextP b.data.toList S n).1.toArray⟩) ∧ RSt w' gb gh gf ga b (nextP b.data.toList S n).2 ∧ Tch [gh, gf, ga] w w' := by
  have hc1 := hS.f.cell
  have hz1 := hS.f.frozen
  have hc2 := hS.a.cell
  have hz2 := hS.a.frozen
  have hc3 := hS.b.cell
  obtain ⟨n1, n2, n3, n4, n5, n6⟩ := hS.ne
  have hbl : b.data.toList.length = b.size := by simp
  have HS := Hid.mk hS
  unfold nextP
  rw [hbl]
  clear hS
  by_cases hf : S.fl = 0
  · rw [hf] at hc1
    rw [if_pos hf]
    by_cases hlt : b.size < S.u + n
    · rw [if_pos hlt]
      have hd : decide ((b.size : Int) < (S.u : Int) + (n : Int)) = true := by simp; omega
      have hs1 := (HS.out.f.set (.int .i64 7)).cell
      clear hbl
      go_enter Tryz.func37, Tryz.ntmps37
      go_wp2_with fail
      go_ret
      exact ⟨rfl, ⟨HS.out.b.other _ n2, HS.out.h.other _ n4, HS.out.f.set _, HS.out.a.other _ (Ne.symm n6), HS.out.ne⟩, (Tch.refl _ _).set (by simp) _⟩
    · rw [if_neg hlt]
      have hd : decide ((b.size : Int) < (S.u : Int) + (n : Int)) = false := by simp; omega
      have hs2 := (HS.out.a.set (.int .i64 ((S.u : Int) + (n : Int)))).cell
      have hs3 := (HS.out.b.other (.int .i64 ((S.u : Int) + (n : Int))) n3).cell
      have hle : (S.u : Int) + (n : Int) ≤ (b.size : Int) := by omega
      have hx : (b.extract S.u (S.u + n)).data.toList = (b.data.toList.drop S.u).take n := extract_list b S.u n
      have hsl : ∀ W, (Instr.slice 9 (.string b) (some (.int .i64 (S.u : Int))) (some (.int .i64 ((S.u : Int) + (n : Int)))) none).run Tryz.prog W = .ok (.string ⟨((b.data.toList.drop S.u).take n).toArray⟩) W := by
        intro W
        rw [run_slice_string W _ b _ _ _ _ Tryz.underlying9 (by omega) (by omega) (by omega)]
        have e1 : ((S.u : Int)).toNat = S.u := by omega
        have e2 : ((S.u : Int) + (n : Int)).toNat = S.u + n := by omega
        rw [e1, e2, ba_eq hx]
      generalize ByteArray.mk ((b.data.toList.drop S.u).take n).toArray = T at *
      have hbox := HS.out.a.set (.int .i64 ((S.u : Int) + (n : Int)))
      have HBX := Hid.mk hbox
      clear hbl hx hbox
      go_enter Tryz.func37, Tryz.ntmps37
      set_option maxRecDepth 100000 in
      go_wp2_with fail
      go_ret
      refine ⟨rfl, ⟨HS.out.b.other _ n3, HS.out.h.other _ n5, by rw [← hf]; exact HS.out.f.other _ n6, ?_, HS.out.ne⟩, (Tch.refl _ _).set (by simp) _⟩
      have h := HBX.out
      rw [show ((S.u : Int) + (n : Int)) = ((S.u + n : Nat) : Int) by omega] at h ⊢
      exact h
  · rw [if_neg hf]
    have h1 : (S.fl == 0) = false := by simpa using hf
    have h2 : (S.fl != 0) = true := by simpa using hf
    clear hbl
    go_enter Tryz.func37, Tryz.ntmps37
    go_wp2_with fail
    go_ret
    exact ⟨rfl, HS.out, Tch.refl _ _⟩
end Bw
end Go.Proofs.YthdhhmflfdbkhaaGreatDoor
