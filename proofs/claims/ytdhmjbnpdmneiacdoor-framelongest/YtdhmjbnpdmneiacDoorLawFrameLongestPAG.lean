/- Joined out of our texts: Ref3, RefHead, StuffMost, CheckSize, FrLong, RefLong, SizesRow, RulesRow, BruijnRow, FlongWalk. -/
import Derived.Test.YtdhmjbnpdmneiacDoorLawFrameLongestRAI
import Derived.Test.YtdhmjbnpdmneiacDoorLawFrameLongestRAJ
import Derived.Test.YtdhmjbnpdmneiacDoorLawFrameLongestPAA
import Derived.Test.YtdhmjbnpdmneiacDoorRefSizes
import Derived.Deep.RegionWith
import Derived.Test.YtdhmjbnpdmneiacDoorLawFrameLongestPAB
import Derived.Test.YtdhmjbnpdmneiacDoorLawFrameLongestPAC
import Derived.Test.YtdhmjbnpdmneiacDoorLawFrameLongestPAF
import Derived.Test.YtdhmjbnpdmneiacDoorRows
import Derived.Lib.LaidU8
import Derived.Test.YtdhmjbnpdmneiacDoorIsRow
import Derived.Test.YtdhmjbnpdmneiacDoorRefFrame
/- What the document's own OfBytes answers of any bytes up to 125: eight bits each. -/
namespace Go.Proofs.YtdhmjbnpdmneiacDoor
open Go.ChangeShapes Go.WideShapes Go.ChangeAt Go.RowKit
namespace Bw
open Bm

set_option maxHeartbeats 2000000 in
theorem ofBytes_any (a : Option Addr) (len cap : Nat) (l : List UInt8) (w : World) (h : w.cell? ⟨5, 1, none⟩ = some (.int .u8 1)) (hl : len ≤ 125) (hr : IsBytes w a len cap l) :
    Calls Tryd.prog 59 #[.slice a len cap] w fun e w' => e = .returned (.string ⟨(ofL l).toArray⟩) ∧ Below w.heap.size w w' := by
  obtain ⟨hlen, _, _, hnil, hcells⟩ := hr
  have HC := Hid.mk hcells
  have HN := Hid.mk hnil
  have HL := Hid.mk hlen
  have H := Hid.mk h
  clear hcells hnil hlen h
  go_enter Tryd.func59, Tryd.ntmps59
  go_wp2_with fail
  go_loopw [3, 9] (fun s i wr => ∃ (k : Nat) (sb : ByteArray), k ≤ len ∧ i = .int .i64 k ∧ s = .string sb ∧ sb.data.toList = ofL (l.take k) ∧ Below w.heap.size w wr) (fun _ i _ => len - (intOf i).toNat)
  case atStart => exact ⟨0, ⟨#[]⟩, Nat.zero_le _, rfl, rfl, rfl, Below.refl _ _⟩
  case round =>
    obtain ⟨k, sb, hk, rfl, rfl, hsb, hbel⟩ := hrel
    have hsz := ba_size hsb
    rw [ofL_length, List.length_take] at hsz
    have hsz2 : (sb.size : Int) ≤ 1000 := by have := HL.out; omega
    have HS := Hid.mk hsb
    clear hsz hsb
    by_cases hlt : k < len
    · cases a with
      | none => exact absurd (HN.out rfl) (by omega)
      | some x =>
        have hc := cell_kept hbel (HC.out x rfl k hlt)
        have hlt' : (k : Int) < (len : Int) := by omega
        obtain ⟨c, hcE⟩ : ∃ c, c = l.getD k 0 := ⟨_, rfl⟩
        rw [← hcE] at hc
        have HE := Hid.mk hcE
        clear hcE
        have hcn := c.toNat_lt
        have hcb : (c.toNat : Int) ≤ 255 := by omega
        have hf := formatInt2 c.toNat wr (cell_kept hbel H.out) (by omega)
        have HF := Hid.mk hf
        clear hf
        go_wp2_with fail
        refine HF.out.mono ?_
        rintro e w1 ⟨j, h1, h2, h3, rfl, hb1⟩
        have hj7 : j ≤ 7 := by
          rcases h3 with rfl | h3
          · omega
          · rcases Nat.lt_or_ge j 8 with h' | h'
            · omega
            · have := Nat.le_trans (Nat.pow_le_pow_right (show 0 < 2 by omega) h') h3
              omega
        have hpad := pad_row c.toNat (j + 1) 8 h2 (by omega)
        have hqs := mk_size (bitsHead c.toNat (j + 1) (j + 1))
        rw [bitsHead_length] at hqs
        have hql := mk_list (bitsHead c.toNat (j + 1) (j + 1))
        generalize ByteArray.mk (bitsHead c.toNat (j + 1) (j + 1)).toArray = qb at *
        have hqb : (qb.size : Int) ≤ 8 := by omega
        have HQ := Hid.mk hqs
        have HQL := Hid.mk hql
        have HP := Hid.mk hpad
        have hbel1 := bl2 hbel hb1
        clear hqs hql hpad h1 h2 h3 HF hb1 hbel
        go_wp2_with fail
        rw [show (8 : Int) - (qb.size : Int) = ((8 - (j + 1) : Nat) : Int) by have := HQ.out; omega]
        refine (rep0 (8 - (j + 1)) _ (by omega)).mono ?_
        rintro e w2 ⟨zb, rfl, hz, hb2⟩
        have hzs := ba_size hz
        rw [List.length_replicate] at hzs
        have hzb : (zb.size : Int) ≤ 8 := by omega
        have hcat : (sb ++ (zb ++ qb)).data.toList = ofL (l.take (k + 1)) := by
          rw [ba_cat, ba_cat, hz, HQL.out, HP.out, HS.out, take_snocL l k (by have := HL.out; omega), ofL_snoc, ← HE.out]
        have HCt := Hid.mk hcat
        have hbel2 := bl2 hbel1 hb2
        have hzq : ((zb ++ qb).size : Int) ≤ 16 := by rw [ByteArray.size_append]; omega
        clear hz hzs hcat hb2 hbel1
        go_wp2_with fail
        go_roundw
        case rel => exact ⟨k + 1, _, by omega, by go_num, rfl, HCt.out, hbel2⟩
        case measure => simp [intOf]; omega
    · have e : k = len := by omega
      subst e
      have hfin : sb.data.toList = ofL l := by rw [HS.out, List.take_of_length_le (by have := HL.out; omega)]
      have HF := Hid.mk hfin
      clear hfin
      go_wp2_with fail
      go_ret
      exact ⟨ret_str1 HF.out, hbel⟩
end Bw
end Go.Proofs.YtdhmjbnpdmneiacDoor

/- What the document's own headOf answers of a right frame. -/
namespace Go.Proofs.YtdhmjbnpdmneiacDoor
open Go.ChangeShapes Go.WideShapes Go.ChangeAt Go.RowKit
namespace Bw
open Bm Cm

set_option maxHeartbeats 8000000 in
theorem headOf_any (f : Fr) (a : Option Addr) (len cap : Nat) (w : World) (hD : w.cell? ⟨5, 1, none⟩ = some (.int .u8 1)) (hE : frE f = 0) (hr : IsBytes w a len cap f.dt) :
    Calls Tryd.prog 31 #[frameV f.id f.lo f.fa f.re f.sz a len cap] w fun e w' => e = .returned (.string ⟨(headL f).toArray⟩) ∧ Below w.heap.size w w' := by
  obtain ⟨e1, e2, e3, e4, e5, e6, e7, e8, e9⟩ := frE_ok hE
  have hdl : f.dt.length = len := hr.1
  have hcode : codeN f < 2 ^ 4 := by
    unfold codeN
    split
    · omega
    · exact (idx_sizes e9).2
  have hb0 : Below w.heap.size w (w.alloc (.cells #[.int .i64 f.id, .bool f.lo, .bool f.fa, .bool f.re, .int .i64 f.sz, .slice a len cap] 33)) := (Below.refl _ _).alloc (Nat.le_refl _) _
  have hnm := fun W hW => nameOf_any f a len cap W hW e1 e2
  unfold frameV at hnm ⊢
  have hNl := mk_list (nameL f)
  have hNs := nameL_len f
  have hro := fun W hW => Ww.rowOf_fit (codeN f) 4 W hW (by omega) hcode
  have hRl := mk_list (bitsHead (codeN f) 4 4)
  have hob := fun W hW hB => ofBytes_any a len cap f.dt W hW (by omega) hB
  have hOl := mk_list (ofL f.dt)
  have hOs : (ofL f.dt).length ≤ 512 := by rw [ofL_length]; omega
  have hidx := (idx_sizes e9).1
  have hcd : codeN f = if f.re then f.sz.toNat else sizesL.idxOf f.dt.length := rfl
  have hhd : headL f = [48] ++ nameL f ++ midL f ++ bitsHead (codeN f) 4 4 ++ ofL f.dt := rfl
  have hN32 : (nameL f).length ≤ 32 := by rw [hNs]; split <;> omega
  generalize hN : ByteArray.mk (nameL f).toArray = NM at *
  generalize hRR : ByteArray.mk (bitsHead (codeN f) 4 4).toArray = RR at *
  generalize hOO : ByteArray.mk (ofL f.dt).toArray = OO at *
  have hNz : NM.size ≤ 32 := by rw [ba_size hNl]; exact hN32
  have hRz : RR.size ≤ 4 := by rw [ba_size hRl, bitsHead_length]; exact Nat.le_refl _
  have hOz : OO.size ≤ 512 := by rw [ba_size hOl]; exact hOs
  have hs := fun W => sizes_any W
  have hix := fun g W hW => index_any g 16 16 sizesI (len : Int) W rfl (by omega) hW
  rw [hdl] at hidx hcd
  simp only [hidx] at hix
  have H1 := Hid.mk hnm
  have H2 := Hid.mk hro
  have H3 := Hid.mk hob
  have H4 := Hid.mk hs
  have H5 := Hid.mk hix
  have HD := Hid.mk hD
  have HR := Hid.mk hr
  have HHD := Hid.mk hhd
  have HNL := Hid.mk hNl
  have HRL := Hid.mk hRl
  have HOL := Hid.mk hOl
  have HCD := Hid.mk hcd
  have hlenm : len ≤ 64 := by omega
  have hmid : midL f = if f.fa then [49, 48, 49, 48] else if f.lo then [48, 48] else [48] := rfl
  have HMI := Hid.mk hmid
  have E3 := Hid.mk e3
  obtain ⟨id, lo, fa, re, sz, dt⟩ := f
  simp only at H1 H2 H3 HCD HMI E3 e4 hb0 ⊢
  obtain ⟨sn, rfl⟩ : ∃ sn : Nat, sz = (sn : Int) := ⟨sz.toNat, by omega⟩
  clear hnm hro hob hs hix hD hr hhd hNl hRl hOl hcd hmid e1 e2 e3 e5 e6 e7 e8 e9 hE hN hRR hOO hNs hN32 hOs hidx hcode hdl
  have hK : ∀ j, (w.alloc (.cells #[.int .i64 id, .bool lo, .bool fa, .bool re, .int .i64 (sn : Int), .slice a len cap] 33)).cell? ⟨w.heap.size, j, none⟩ = #[Value.int .i64 id, .bool lo, .bool fa, .bool re, .int .i64 (sn : Int), .slice a len cap][j]? :=
    fun j => cell_of_row _ _ j _ _ _ (heap_alloc_new w _)
  have HK := Hid.mk hK
  clear hK
  cases re
  · have HCN : Hid (((sizesL.idxOf len : Nat) : Int) = ((codeN ⟨id, lo, fa, false, (sn : Int), dt⟩ : Nat) : Int)) := Hid.mk (by rw [HCD.out]; rfl)
    cases lo <;> cases fa
    all_goals focus
      go_enter Tryd.func31, Tryd.ntmps31
      go_wp2_with fail
      refine (H1.out _ (cell_kept hb0 HD.out)).mono ?_
      rintro e w1 ⟨rfl, hb1⟩
      have hbel1 := bl2 hb0 hb1
      have HB1 := Hid.mk hb1
      have k1 := cell_kept hb1 (HK.out 1)
      have k2 := cell_kept hb1 (HK.out 2)
      have k3 := cell_kept hb1 (HK.out 3)
      have k4 := cell_kept hb1 (HK.out 4)
      have k5 := cell_kept hb1 (HK.out 5)
      simp at k1 k2 k3 k4 k5
      clear hb1 hb0
      go_wp2_with fail
      have hbA : Below w1.heap.size w1 (w1.alloc sizesC) := (Below.refl _ _).alloc (Nat.le_refl _) _
      have k5a := cell_kept hbA k5
      set_option maxRecDepth 100000 in
      go_region_with (first
        | (go_at_call 30; refine (H4.out _).mono ?_; rintro e w2 ⟨rfl, hw2⟩; subst hw2)
        | (go_at_call 56; refine (H5.out _ _ (sizes_intsD _ _ (by simp))).mono ?_; rintro e w2 ⟨rfl, hw2⟩; subst hw2))
      all_goals focus
        have hbel2 : Below w.heap.size w (w1.alloc sizesC).drew := (bl2 hbel1 hbA).drew
        have k5' : (w1.alloc sizesC).drew.cell? ⟨w.heap.size, 5, none⟩ = some (.slice a len cap) := k5a
        clear hbel1 hbA k1 k2 k3 k4 k5 k5a
        generalize (w1.alloc sizesC).drew = w2 at *
        go_wp2_with fail
        rw [HCN.out]
        refine (H2.out _ (cell_kept hbel2 HD.out)).mono ?_
        rintro e w3 ⟨rfl, hb3⟩
        have hbel3 := bl2 hbel2 hb3
        have k55 := cell_kept hb3 k5'
        clear hb3 k5'
        go_wp2_with fail
        refine (H3.out _ (cell_kept hbel3 HD.out) (isBytes_below HR.out hbel3)).mono ?_
        rintro e w4 ⟨rfl, hb4⟩
        have hbel4 := bl2 hbel3 hb4
        clear hb4 hbel3 k55
        go_wp2_with fail
        go_ret
        exact ⟨ret_str1 (by rw [HHD.out, HMI.out]; simp only [ba_cat, HNL.out, HRL.out, HOL.out]; rfl), hbel4⟩
  · obtain ⟨rfl, _⟩ := E3.out rfl
    have HCN : Hid ((sn : Int) = ((codeN ⟨id, lo, false, true, (sn : Int), dt⟩ : Nat) : Int)) := Hid.mk (by rw [HCD.out]; rfl)
    cases lo
    all_goals focus
      go_enter Tryd.func31, Tryd.ntmps31
      go_wp2_with fail
      refine (H1.out _ (cell_kept hb0 HD.out)).mono ?_
      rintro e w1 ⟨rfl, hb1⟩
      have hbel1 := bl2 hb0 hb1
      have HB1 := Hid.mk hb1
      have k1 := cell_kept hb1 (HK.out 1)
      have k2 := cell_kept hb1 (HK.out 2)
      have k3 := cell_kept hb1 (HK.out 3)
      have k4 := cell_kept hb1 (HK.out 4)
      have k5 := cell_kept hb1 (HK.out 5)
      simp at k1 k2 k3 k4 k5
      clear hb1 hb0
      have k5' := k5
      have hbel2 := hbel1
      clear hbel1
      go_wp2_with fail
      rw [HCN.out]
      refine (H2.out _ (cell_kept hbel2 HD.out)).mono ?_
      rintro e w3 ⟨rfl, hb3⟩
      have hbel3 := bl2 hbel2 hb3
      have k55 := cell_kept hb3 k5'
      clear hb3 k5'
      go_wp2_with fail
      refine (H3.out _ (cell_kept hbel3 HD.out) (isBytes_below HR.out hbel3)).mono ?_
      rintro e w4 ⟨rfl, hb4⟩
      have hbel4 := bl2 hbel3 hb4
      clear hb4 hbel3 k55
      go_wp2_with fail
      go_ret
      exact ⟨ret_str1 (by rw [HHD.out, HMI.out]; simp only [ba_cat, HNL.out, HRL.out, HOL.out]; rfl), hbel4⟩
end Bw
end Go.Proofs.YtdhmjbnpdmneiacDoor

/- What stuff.Most answers of any number. -/
namespace Go.Proofs.YtdhmjbnpdmneiacDoor
open Go.ChangeShapes Go.WideShapes Go.ChangeAt Go.RowKit
namespace Bw
open Bm

set_option maxHeartbeats 1000000 in
theorem most_bad (n : Int) (w : World) (h : n < 0 ∨ 1000 < n) :
    Calls Tryd.prog 25 #[.int .i64 n] w fun e w' => e = .returned (.tuple #[.int .i64 0, .int .i64 3]) ∧ w' = w := by
  have HN := Hid.mk h
  clear h
  go_enter Tryd.func25, Tryd.ntmps25
  go_wp2_with fail
  refine (isLength_no n w HN.out).mono ?_
  rintro e w1 ⟨rfl, hw1⟩
  subst hw1
  go_wp2_with fail
  go_ret2
  exact ⟨rfl, rfl⟩

set_option maxHeartbeats 1000000 in
theorem most_zero (w : World) :
    Calls Tryd.prog 25 #[.int .i64 0] w fun e w' => e = .returned (.tuple #[.int .i64 0, .int .i64 0]) ∧ w' = w := by
  go_enter Tryd.func25, Tryd.ntmps25
  go_wp2_with fail
  refine (isLength_yes 0 w (by omega) (by omega)).mono ?_
  rintro e w1 ⟨rfl, hw1⟩
  subst hw1
  go_wp2_with fail
  go_ret2
  exact ⟨rfl, rfl⟩

theorem quo4 (n : Nat) (h : 1 ≤ n) : (n : Int) + ((n : Int) - 1) / 4 = ((n + (n - 1) / 4 : Nat) : Int) := by omega

set_option maxHeartbeats 1000000 in
theorem most_pos (n : Nat) (w : World) (h : 1 ≤ n) (hn : n ≤ 1000) :
    Calls Tryd.prog 25 #[.int .i64 n] w fun e w' => e = .returned (.tuple #[.int .i64 (n + (n - 1) / 4 : Nat), .int .i64 0]) ∧ w' = w := by
  have h0 : ((n : Int) == 0) = false := by rw [beq_eq_false_iff_ne]; omega
  have h1 : (1 : Int) ≤ (n : Int) := by omega
  have h2 : (n : Int) ≤ 1000 := by omega
  have hq := quo4 n h
  have HQ := Hid.mk hq
  clear hq h
  go_enter Tryd.func25, Tryd.ntmps25
  go_wp2_with fail
  refine (isLength_yes n w (by omega) (by omega)).mono ?_
  rintro e w1 ⟨rfl, hw1⟩
  subst hw1
  go_wp2_with fail
  go_ret2
  refine ⟨?_, rfl⟩
  rw [← HQ.out]
  rfl

theorem most_any (n : Nat) (w : World) (hn : n ≤ 1000) :
    Calls Tryd.prog 25 #[.int .i64 n] w fun e w' => e = .returned (.tuple #[.int .i64 (n + (n - 1) / 4 : Nat), .int .i64 0]) ∧ w' = w := by
  by_cases h : n = 0
  · subst h; exact most_zero w
  · exact most_pos n w (by omega) hn
end Bw
end Go.Proofs.YtdhmjbnpdmneiacDoor

/- What check.Size answers, errors too, where the table of kinds lies as its initialiser lays it. -/
namespace Go.Proofs.YtdhmjbnpdmneiacDoor
open Go.ChangeShapes Go.WideShapes Go.ChangeAt Go.RowKit
namespace Bw
open Bm Cm

set_option maxHeartbeats 2000000 in
theorem size_who (k : Int) (w : World) (hk : k < 0 ∨ 4 < k) :
    Calls Tryd.prog 24 #[.int .i64 k] w fun e w' => e = .returned (.tuple #[.int .i64 0, .int .i64 8]) ∧ w' = w := by
  have HK := Hid.mk hk
  clear hk
  go_enter Tryd.func24, Tryd.ntmps24
  go_wp2_with fail
  refine (isKind_no k w HK.out).mono ?_
  rintro e w2 ⟨rfl, hw2⟩
  subst hw2
  go_wp2_with fail
  go_ret2
  exact ⟨rfl, rfl⟩
set_option maxHeartbeats 2000000 in
theorem size_ok (k : Nat) (w : World) (hR : RulesAt w) (hk : k ≤ 4) :
    Calls Tryd.prog 24 #[.int .i64 k] w fun e w' => e = .returned (.tuple #[.int .i64 (kS k), .int .i64 0]) ∧ w' = w := by
  obtain ⟨c0, c1, c2, c3⟩ := hR k hk
  have hk' : (k : Int) < 5 := by omega
  clear hR
  go_enter Tryd.func24, Tryd.ntmps24
  go_wp2_with fail
  refine (isKind_yes k w hk).mono ?_
  rintro e w2 ⟨rfl, hw2⟩
  subst hw2
  go_wp2_with fail
  go_ret2
  exact ⟨rfl, rfl⟩

end Bw
end Go.Proofs.YtdhmjbnpdmneiacDoor

/- What frame.Longest answers. -/
namespace Go.Proofs.YtdhmjbnpdmneiacDoor
open Go.ChangeShapes Go.WideShapes Go.ChangeAt Go.RowKit
namespace Bw
open Bm Cm

/-- a frame with so many bytes, all 0 -/
def frZ (lo fa : Bool) (n : Nat) : Fr := ⟨0, lo, fa, false, 0, List.replicate n 0⟩
def mostN (k : Nat) : Nat := k + (k - 1) / 4
def longN (lo fa : Bool) (n : Nat) : Nat := if fa then mostN (headL (frZ lo fa n)).length + (if 16 < n then 32 else 27) + 10 else mostN ((headL (frZ lo fa n)).length + 15) + 10
def longE (lo fa : Bool) (n : Int) : Int := if n < 0 ∨ 64 < n then 2 else frEn 0 lo fa false 0 n.toNat
def longA (lo fa : Bool) (n : Int) : Value := if longE lo fa n = 0 then .tuple #[.int .i64 (longN lo fa n.toNat), .int .i64 0] else .tuple #[.int .i64 0, .int .i64 (longE lo fa n)]

set_option maxHeartbeats 2000000 in
theorem long_many (lo fa : Bool) (n : Int) (w : World) (h : n < 0 ∨ 64 < n) :
    Calls Tryd.prog 10 #[.bool lo, .bool fa, .int .i64 n] w fun e w' => e = .returned (.tuple #[.int .i64 0, .int .i64 2]) ∧ Below w.heap.size w w' := by
  by_cases h1 : n < 0
  · clear h
    go_enter Tryd.func10, Tryd.ntmps10
    go_wp2_with fail
    go_ret2
    exact ⟨rfl, Below.refl _ _⟩
  · have h2 : 64 < n := by omega
    have h3 : ¬ n < 0 := h1
    clear h
    go_enter Tryd.func10, Tryd.ntmps10
    go_wp2_with fail
    go_ret2
    exact ⟨rfl, Below.refl _ _⟩

set_option maxHeartbeats 8000000 in
set_option maxRecDepth 100000 in
theorem long_in (lo fa : Bool) (n : Nat) (w : World) (hS : SizesAt w) (hR : RulesAt w) (hn : n ≤ 64) :
    Calls Tryd.prog 10 #[.bool lo, .bool fa, .int .i64 n] w fun e w' => e = .returned (longA lo fa n) ∧ Below w.heap.size w w' := by
  obtain ⟨i0, hi, hz0, hz1, hz2⟩ := info_parts info_u8
  have hE : longE lo fa n = frE (frZ lo fa n) := by
    unfold longE frE frZ
    rw [if_neg (by omega)]
    simp
  have hdl : (frZ lo fa n).dt.length = n := by simp [frZ]
  have a1 := fun (a : Option Addr) (cap : Nat) W hW => frCheck_any 0 lo fa false 0 a n cap W hW (by unfold maxLen; omega)
  have hE1 : frEn 0 lo fa false 0 n = frE (frZ lo fa n) := by unfold frE; rw [hdl]; rfl
  rw [hE1] at a1
  have a2 := fun (a : Option Addr) (cap : Nat) W hE hW hB => head_any (frZ lo fa n) a n cap W hW hE hB
  have hHl := mk_list (headL (frZ lo fa n))
  have hHn := headL_le (frZ lo fa n) (by omega)
  have hHr := headL_row (frZ lo fa n)
  unfold longA
  rw [hE]
  have hlN : longN lo fa (n : Int).toNat = longN lo fa n := rfl
  rw [hlN]
  unfold longN
  generalize ByteArray.mk (headL (frZ lo fa n)).toArray = H at *
  have hHs : H.size = (headL (frZ lo fa n)).length := ba_size hHl
  rw [← hHs]
  have a3 := fun W hW => size_ok 0 W hW (by omega)
  have a4 := fun W => most_any (H.size + 15) W (by omega)
  have a5 := fun W => most_any H.size W (by omega)
  have a6 := fun W hW => fixedPart_any H 0 n W hW (by omega) (by omega) (by rw [hHl]; exact hHr) (by omega)
  have hFn := fixedL_len H.data.toList 0 n
  have hFl := mk_list (fixedL H.data.toList 0 n)
  generalize ByteArray.mk (fixedL H.data.toList 0 n).toArray = FX at *
  have hFs : FX.size = if 16 < n then 32 else 27 := by rw [ba_size hFl, hFn]
  rw [← hFs]
  have hFm : FX.size ≤ 32 := by rw [hFs]; split <;> omega
  have hk0 : ((kS 0 : Nat) : Int) = 15 := rfl
  rw [hk0] at a3
  have e15 : ((H.size + 15 : Nat) : Int) = (H.size : Int) + 15 := by omega
  rw [e15] at a4
  have m4 : mostN (H.size + 15) = H.size + 15 + (H.size + 15 - 1) / 4 := rfl
  have m5 : mostN H.size = H.size + (H.size - 1) / 4 := rfl
  rw [← m4] at a4
  rw [← m5] at a5
  have b4 : mostN (H.size + 15) ≤ 2000 := by rw [m4]; omega
  have b5 : mostN H.size ≤ 2000 := by rw [m5]; omega
  generalize mostN (H.size + 15) = M4 at *
  generalize mostN H.size = M5 at *
  have hHm : (H.size : Int) ≤ 553 := by omega
  have hze : ∀ a cap, frameV (frZ lo fa n).id (frZ lo fa n).lo (frZ lo fa n).fa (frZ lo fa n).re (frZ lo fa n).sz a n cap = frameV 0 lo fa false 0 a n cap := fun _ _ => rfl
  simp only [hze] at a2
  have hdt : (frZ lo fa n).dt = List.replicate n 0 := rfl
  rw [hdt] at a2
  generalize frE (frZ lo fa n) = ee at *
  have HA1 := Hid.mk a1
  have HA2 := Hid.mk a2
  have HA3 := Hid.mk a3
  have HA4 := Hid.mk a4
  have HA5 := Hid.mk a5
  have HA6 := Hid.mk a6
  have HS := Hid.mk hS
  have HR := Hid.mk hR
  have hn64 : (n : Int) ≤ 64 := by omega
  unfold frameV at HA1 HA2
  clear a1 a2 a3 a4 a5 a6 hS hR hE hdl hE1 hHl hHn hHr hlN hHs hFn hFl hFs hk0 e15 m4 m5 hze hdt
  have zero_cells : cellsOf (List.replicate n (0 : UInt8)) = List.replicate n (Value.int .u8 0) := by simp [cellsOf]
  have HZC := Hid.mk zero_cells
  clear zero_cells
  by_cases h0 : ee = 0
  · subst h0
    rw [if_pos rfl]
    cases fa
    · simp only [Bool.false_eq_true, if_false]
      go_enter Tryd.func10, Tryd.ntmps10
      go_wp2_with (at_make; refine wpList_make_full _ rfl (.tmp 25) (.tmp 25) 31 rfl w.heap.size 5 i0 (.int .u8 0) 1 Tryd.underlying31 hi hz0 hz1 .i64 .i64 _ _ n rfl rfl (by omega) (by omega) (by rw [hz2]; omega) (by unfold maxLen; omega) (Nat.le_refl _) ?_; intro w2 hown hgrow)
      have hown0 : w2.ownsRow w.heap.size 5 1 (.slice (some ⟨w.heap.size, 0, none⟩) n n) n (cellsOf (List.replicate n (0 : UInt8))) := by
        rw [HZC.out, ← toList_madeCells_one]
        rw [Nat.mul_one] at hown
        exact hown
      have hb2 : Below w.heap.size w w2 := Below.grown (Below.refl _ _) hgrow (Nat.le_refl _) (fun q hq => by cases hq)
      obtain ⟨av, cp, hv, hby, -⟩ := isBytes_ownP hown0
      have hv1 : av = some ⟨w.heap.size, 0, none⟩ ∧ cp = n := by
        simp only [Value.slice.injEq] at hv
        exact ⟨hv.1.symm, hv.2.2.symm⟩
      obtain ⟨rfl, rfl⟩ := hv1
      have hbx := below_box w2 0 lo false false 0 (some ⟨w.heap.size, 0, none⟩) cp cp
      have hkx := FrAt.box w2 0 lo false false 0 (some ⟨w.heap.size, 0, none⟩) cp cp
      unfold frameC at hbx hkx
      have HB2 := Hid.mk (bl2 hb2 hbx)
      have HK2 := Hid.mk hkx
      have HY2 := Hid.mk (isBytes_below hby hbx)
      clear hown hown0 hgrow hb2 hv hby hbx hkx
      go_wp2_with fail
      refine (HA1.out _ _ _ (HS.out.kept HB2.out)).mono ?_
      rintro e w3 ⟨rfl, hb3⟩
      have HB3 := Hid.mk (bl2 HB2.out hb3)
      have HK3 := Hid.mk (HK2.out.kept hb3)
      have HY3 := Hid.mk (isBytes_below HY2.out hb3)
      clear hb3 HB2 HK2 HY2
      obtain ⟨k0, k1, k2, k3, k4, k5⟩ := HK3.out
      go_wp2_with fail
      refine (HA2.out _ _ _ (by simp) (HS.out.kept HB3.out) HY3.out).mono ?_
      rintro e w4 ⟨rfl, hb4⟩
      have HB4 := Hid.mk (bl2 HB3.out hb4)
      clear hb4 HB3 HK3 HY3 k0 k1 k2 k3 k4 k5
      go_wp2_with fail
      refine (HA3.out _ (HR.out.kept HB4.out)).mono ?_
      rintro e w5 ⟨rfl, hw5⟩
      subst hw5
      go_wp2_with fail
      refine (HA4.out _).mono ?_
      rintro e w6 ⟨rfl, hw6⟩
      subst hw6
      go_wp2_with fail
      go_ret2
      exact ⟨by congr 4, HB4.out⟩
    · simp only [if_true]
      go_enter Tryd.func10, Tryd.ntmps10
      go_wp2_with (at_make; refine wpList_make_full _ rfl (.tmp 25) (.tmp 25) 31 rfl w.heap.size 5 i0 (.int .u8 0) 1 Tryd.underlying31 hi hz0 hz1 .i64 .i64 _ _ n rfl rfl (by omega) (by omega) (by rw [hz2]; omega) (by unfold maxLen; omega) (Nat.le_refl _) ?_; intro w2 hown hgrow)
      have hown0 : w2.ownsRow w.heap.size 5 1 (.slice (some ⟨w.heap.size, 0, none⟩) n n) n (cellsOf (List.replicate n (0 : UInt8))) := by
        rw [HZC.out, ← toList_madeCells_one]
        rw [Nat.mul_one] at hown
        exact hown
      have hb2 : Below w.heap.size w w2 := Below.grown (Below.refl _ _) hgrow (Nat.le_refl _) (fun q hq => by cases hq)
      obtain ⟨av, cp, hv, hby, -⟩ := isBytes_ownP hown0
      have hv1 : av = some ⟨w.heap.size, 0, none⟩ ∧ cp = n := by
        simp only [Value.slice.injEq] at hv
        exact ⟨hv.1.symm, hv.2.2.symm⟩
      obtain ⟨rfl, rfl⟩ := hv1
      have hbx := below_box w2 0 lo true false 0 (some ⟨w.heap.size, 0, none⟩) cp cp
      have hkx := FrAt.box w2 0 lo true false 0 (some ⟨w.heap.size, 0, none⟩) cp cp
      unfold frameC at hbx hkx
      have HB2 := Hid.mk (bl2 hb2 hbx)
      have HK2 := Hid.mk hkx
      have HY2 := Hid.mk (isBytes_below hby hbx)
      clear hown hown0 hgrow hb2 hv hby hbx hkx
      go_wp2_with fail
      refine (HA1.out _ _ _ (HS.out.kept HB2.out)).mono ?_
      rintro e w3 ⟨rfl, hb3⟩
      have HB3 := Hid.mk (bl2 HB2.out hb3)
      have HK3 := Hid.mk (HK2.out.kept hb3)
      have HY3 := Hid.mk (isBytes_below HY2.out hb3)
      clear hb3 HB2 HK2 HY2
      obtain ⟨k0, k1, k2, k3, k4, k5⟩ := HK3.out
      go_wp2_with fail
      refine (HA2.out _ _ _ (by simp) (HS.out.kept HB3.out) HY3.out).mono ?_
      rintro e w4 ⟨rfl, hb4⟩
      have HB4 := Hid.mk (bl2 HB3.out hb4)
      clear hb4 HB3 HK3 HY3 k0 k1 k2 k3 k4 k5
      go_wp2_with fail
      refine (HA5.out _).mono ?_
      rintro e w5 ⟨rfl, hw5⟩
      subst hw5
      go_wp2_with fail
      refine (HA6.out _ (HR.out.kept HB4.out)).mono ?_
      rintro e w6 ⟨rfl, hb6⟩
      have HB6 := Hid.mk (bl2 HB4.out hb6)
      clear hb6
      go_wp2_with fail
      go_ret2
      exact ⟨by congr 4, HB6.out⟩
  · rw [if_neg h0]
    have hne : (ee != 0) = true := by simpa using h0
    go_enter Tryd.func10, Tryd.ntmps10
    go_wp2_with (at_make; refine wpList_make_full _ rfl (.tmp 25) (.tmp 25) 31 rfl w.heap.size 5 i0 (.int .u8 0) 1 Tryd.underlying31 hi hz0 hz1 .i64 .i64 _ _ n rfl rfl (by omega) (by omega) (by rw [hz2]; omega) (by unfold maxLen; omega) (Nat.le_refl _) ?_; intro w2 hown hgrow)
    have hown0 : w2.ownsRow w.heap.size 5 1 (.slice (some ⟨w.heap.size, 0, none⟩) n n) n (cellsOf (List.replicate n (0 : UInt8))) := by
      rw [HZC.out, ← toList_madeCells_one]
      rw [Nat.mul_one] at hown
      exact hown
    have hb2 : Below w.heap.size w w2 := Below.grown (Below.refl _ _) hgrow (Nat.le_refl _) (fun q hq => by cases hq)
    obtain ⟨av, cp, hv, hby, -⟩ := isBytes_ownP hown0
    have hv1 : av = some ⟨w.heap.size, 0, none⟩ ∧ cp = n := by
      simp only [Value.slice.injEq] at hv
      exact ⟨hv.1.symm, hv.2.2.symm⟩
    obtain ⟨rfl, rfl⟩ := hv1
    have hbx := below_box w2 0 lo fa false 0 (some ⟨w.heap.size, 0, none⟩) cp cp
    have hkx := FrAt.box w2 0 lo fa false 0 (some ⟨w.heap.size, 0, none⟩) cp cp
    unfold frameC at hbx hkx
    have HB2 := Hid.mk (bl2 hb2 hbx)
    have HK2 := Hid.mk hkx
    have HY2 := Hid.mk (isBytes_below hby hbx)
    clear hown hown0 hgrow hb2 hv hby hbx hkx
    go_wp2_with fail
    refine (HA1.out _ _ _ (HS.out.kept HB2.out)).mono ?_
    rintro e w3 ⟨rfl, hb3⟩
    have HB3 := Hid.mk (bl2 HB2.out hb3)
    have HK3 := Hid.mk (HK2.out.kept hb3)
    have HY3 := Hid.mk (isBytes_below HY2.out hb3)
    clear hb3 HB2 HK2 HY2
    obtain ⟨k0, k1, k2, k3, k4, k5⟩ := HK3.out
    go_wp2_with fail
    go_ret2
    exact ⟨rfl, HB3.out⟩
theorem frLong_any (lo fa : Bool) (n : Int) (w : World) (hS : SizesAt w) (hR : RulesAt w) :
    Calls Tryd.prog 10 #[.bool lo, .bool fa, .int .i64 n] w fun e w' => e = .returned (longA lo fa n) ∧ Below w.heap.size w w' := by
  by_cases h : n < 0 ∨ 64 < n
  · have hE : longE lo fa n = 2 := by unfold longE; rw [if_pos h]
    unfold longA
    rw [hE, if_neg (by decide)]
    exact long_many lo fa n w h
  · obtain ⟨m, rfl⟩ : ∃ m : Nat, n = (m : Int) := ⟨n.toNat, by omega⟩
    exact long_in lo fa m w hS hR (by omega)
end Bw
end Go.Proofs.YtdhmjbnpdmneiacDoor

/- What the document's own LongestOf answers of a right kind. -/
namespace Go.Proofs.YtdhmjbnpdmneiacDoor
open Go.ChangeShapes Go.WideShapes Go.ChangeAt Go.RowKit
namespace Bw
open Bm Cm

theorem ret_intL {a b : Int} (h : a = b) : Ending.returned (.int .i64 a) = .returned (.int .i64 b) := by rw [h]
set_option maxHeartbeats 1000000 in
theorem most1_any (k : Nat) (w : World) (h : 1 ≤ k) (hk : k ≤ 1000) :
    Calls Tryd.prog 32 #[.int .i64 k] w fun e w' => e = .returned (.int .i64 (mostN k : Nat)) ∧ w' = w := by
  have HQ := Hid.mk (quo4 k h)
  have hk1 : (1 : Int) ≤ (k : Int) := by omega
  have hk2 : (k : Int) ≤ 1000 := by omega
  clear h hk
  go_enter Tryd.func32, Tryd.ntmps32
  go_wp2_with fail
  go_ret
  refine ⟨?_, rfl⟩
  unfold mostN
  rw [← HQ.out]
  rfl

set_option maxHeartbeats 8000000 in
set_option maxRecDepth 100000 in
theorem longestOf_any (lo fa : Bool) (n : Nat) (w : World) (hD : w.cell? ⟨5, 1, none⟩ = some (.int .u8 1)) (hn : n ≤ 64) (hE : frE (frZ lo fa n) = 0) :
    Calls Tryd.prog 13 #[.bool lo, .bool fa, .int .i64 n] w fun e w' => e = .returned (.int .i64 (longN lo fa n)) ∧ Below w.heap.size w w' := by
  obtain ⟨i0, hi, hz0, hz1, hz2⟩ := info_parts info_u8
  have hdl : (frZ lo fa n).dt.length = n := by simp [frZ]
  have a2 := fun (a : Option Addr) (cap : Nat) W hW hB => headOf_any (frZ lo fa n) a n cap W hW hE hB
  have hHl := mk_list (headL (frZ lo fa n))
  have hHn := headL_le (frZ lo fa n) (by omega)
  unfold longN
  generalize ByteArray.mk (headL (frZ lo fa n)).toArray = H at *
  have hHs : H.size = (headL (frZ lo fa n)).length := ba_size hHl
  rw [← hHs]
  have a4 := fun W => most1_any (H.size + 15) W (by omega) (by omega)
  have a5 := fun W => most1_any H.size W (by omega) (by omega)
  have e15 : ((H.size + 15 : Nat) : Int) = (H.size : Int) + 15 := by omega
  rw [e15] at a4
  have m4 : mostN (H.size + 15) = H.size + 15 + (H.size + 15 - 1) / 4 := rfl
  have m5 : mostN H.size = H.size + (H.size - 1) / 4 := rfl
  have b4 : mostN (H.size + 15) ≤ 2000 := by rw [m4]; omega
  have b5 : mostN H.size ≤ 2000 := by rw [m5]; omega
  generalize mostN (H.size + 15) = M4 at *
  generalize mostN H.size = M5 at *
  have hHm : (H.size : Int) ≤ 553 := by omega
  have hze : ∀ a cap, frameV (frZ lo fa n).id (frZ lo fa n).lo (frZ lo fa n).fa (frZ lo fa n).re (frZ lo fa n).sz a n cap = frameV 0 lo fa false 0 a n cap := fun _ _ => rfl
  simp only [hze] at a2
  have hdt : (frZ lo fa n).dt = List.replicate n 0 := rfl
  rw [hdt] at a2
  have HA2 := Hid.mk a2
  have HA4 := Hid.mk a4
  have HA5 := Hid.mk a5
  have HD := Hid.mk hD
  have hn64 : (n : Int) ≤ 64 := by omega
  unfold frameV at HA2
  have zero_cells : cellsOf (List.replicate n (0 : UInt8)) = List.replicate n (Value.int .u8 0) := by simp [cellsOf]
  have HZC := Hid.mk zero_cells
  clear a2 a4 a5 hD hE hdl hHl hHn hHs e15 m4 m5 hze hdt zero_cells
  cases fa
  · simp only [Bool.false_eq_true, if_false]
    go_enter Tryd.func13, Tryd.ntmps13
    go_wp2_with (at_make; refine wpList_make_full _ rfl (.tmp 12) (.tmp 12) 31 rfl w.heap.size 5 i0 (.int .u8 0) 1 Tryd.underlying31 hi hz0 hz1 .i64 .i64 _ _ n rfl rfl (by omega) (by omega) (by rw [hz2]; omega) (by unfold maxLen; omega) (Nat.le_refl _) ?_; intro w2 hown hgrow)
    have hown0 : w2.ownsRow w.heap.size 5 1 (.slice (some ⟨w.heap.size, 0, none⟩) n n) n (cellsOf (List.replicate n (0 : UInt8))) := by
      rw [HZC.out, ← toList_madeCells_one]
      rw [Nat.mul_one] at hown
      exact hown
    have hb2 : Below w.heap.size w w2 := Below.grown (Below.refl _ _) hgrow (Nat.le_refl _) (fun q hq => by cases hq)
    obtain ⟨av, cp, hv, hby, -⟩ := isBytes_ownP hown0
    have hv1 : av = some ⟨w.heap.size, 0, none⟩ ∧ cp = n := by
      simp only [Value.slice.injEq] at hv
      exact ⟨hv.1.symm, hv.2.2.symm⟩
    obtain ⟨rfl, rfl⟩ := hv1
    have HB2 := Hid.mk hb2
    have HY2 := Hid.mk hby
    clear hown hown0 hgrow hb2 hv hby
    go_wp2_with fail
    refine (HA2.out _ _ _ (cell_kept HB2.out HD.out) HY2.out).mono ?_
    rintro e w4 ⟨rfl, hb4⟩
    have HB4 := Hid.mk (bl2 HB2.out hb4)
    clear hb4 HB2 HY2 HA2
    go_wp2_with fail
    refine (HA4.out _).mono ?_
    rintro e w5 ⟨rfl, hw5⟩
    subst hw5
    go_wp2_with fail
    go_ret
    exact ⟨by congr 2, HB4.out⟩
  · simp only [if_true]
    by_cases h16 : 16 < n
    · rw [if_pos h16]
      have h16' : (16 : Int) < (n : Int) := by omega
      go_enter Tryd.func13, Tryd.ntmps13
      go_wp2_with (at_make; refine wpList_make_full _ rfl (.tmp 12) (.tmp 12) 31 rfl w.heap.size 5 i0 (.int .u8 0) 1 Tryd.underlying31 hi hz0 hz1 .i64 .i64 _ _ n rfl rfl (by omega) (by omega) (by rw [hz2]; omega) (by unfold maxLen; omega) (Nat.le_refl _) ?_; intro w2 hown hgrow)
      have hown0 : w2.ownsRow w.heap.size 5 1 (.slice (some ⟨w.heap.size, 0, none⟩) n n) n (cellsOf (List.replicate n (0 : UInt8))) := by
        rw [HZC.out, ← toList_madeCells_one]
        rw [Nat.mul_one] at hown
        exact hown
      have hb2 : Below w.heap.size w w2 := Below.grown (Below.refl _ _) hgrow (Nat.le_refl _) (fun q hq => by cases hq)
      obtain ⟨av, cp, hv, hby, -⟩ := isBytes_ownP hown0
      have hv1 : av = some ⟨w.heap.size, 0, none⟩ ∧ cp = n := by
        simp only [Value.slice.injEq] at hv
        exact ⟨hv.1.symm, hv.2.2.symm⟩
      obtain ⟨rfl, rfl⟩ := hv1
      have HB2 := Hid.mk hb2
      have HY2 := Hid.mk hby
      clear hown hown0 hgrow hb2 hv hby
      go_wp2_with fail
      refine (HA2.out _ _ _ (cell_kept HB2.out HD.out) HY2.out).mono ?_
      rintro e w4 ⟨rfl, hb4⟩
      have HB4 := Hid.mk (bl2 HB2.out hb4)
      clear hb4 HB2 HY2 HA2
      go_wp2_with fail
      refine (HA5.out _).mono ?_
      rintro e w5 ⟨rfl, hw5⟩
      subst hw5
      go_wp2_with fail
      go_ret
      exact ⟨ret_intL (by omega), HB4.out⟩
    · rw [if_neg h16]
      have h16' : (n : Int) ≤ 16 := by omega
      go_enter Tryd.func13, Tryd.ntmps13
      go_wp2_with (at_make; refine wpList_make_full _ rfl (.tmp 12) (.tmp 12) 31 rfl w.heap.size 5 i0 (.int .u8 0) 1 Tryd.underlying31 hi hz0 hz1 .i64 .i64 _ _ n rfl rfl (by omega) (by omega) (by rw [hz2]; omega) (by unfold maxLen; omega) (Nat.le_refl _) ?_; intro w2 hown hgrow)
      have hown0 : w2.ownsRow w.heap.size 5 1 (.slice (some ⟨w.heap.size, 0, none⟩) n n) n (cellsOf (List.replicate n (0 : UInt8))) := by
        rw [HZC.out, ← toList_madeCells_one]
        rw [Nat.mul_one] at hown
        exact hown
      have hb2 : Below w.heap.size w w2 := Below.grown (Below.refl _ _) hgrow (Nat.le_refl _) (fun q hq => by cases hq)
      obtain ⟨av, cp, hv, hby, -⟩ := isBytes_ownP hown0
      have hv1 : av = some ⟨w.heap.size, 0, none⟩ ∧ cp = n := by
        simp only [Value.slice.injEq] at hv
        exact ⟨hv.1.symm, hv.2.2.symm⟩
      obtain ⟨rfl, rfl⟩ := hv1
      have HB2 := Hid.mk hb2
      have HY2 := Hid.mk hby
      clear hown hown0 hgrow hb2 hv hby
      go_wp2_with fail
      refine (HA2.out _ _ _ (cell_kept HB2.out HD.out) HY2.out).mono ?_
      rintro e w4 ⟨rfl, hb4⟩
      have HB4 := Hid.mk (bl2 HB2.out hb4)
      clear hb4 HB2 HY2 HA2
      go_wp2_with fail
      refine (HA5.out _).mono ?_
      rintro e w5 ⟨rfl, hw5⟩
      subst hw5
      go_wp2_with fail
      go_ret
      exact ⟨ret_intL (by omega), HB4.out⟩
end Bw
end Go.Proofs.YtdhmjbnpdmneiacDoor

/- The table of the numbers of bytes off the row's own condition. -/
namespace Go.Proofs.YtdhmjbnpdmneiacDoor
open Go.ChangeShapes Go.WideShapes Go.ChangeAt Go.RowKit
namespace Bw
theorem fsz_eq : Rows.laid_omnibus_frame_sizes (H := Unit) = Lib.tabData .i64 sizesI := by kernel_rfl
theorem fsz_t : Tryd.prog.underlying 86 = some (.array 16 3) := by kernel_rfl
theorem fsz_c : Tryd.prog.cellsOf 86 = 16 := by kernel_rfl
theorem fsz_c1 : Tryd.prog.cellsOf 3 = 1 := by kernel_rfl
theorem fsz_g : Tryd.prog.globalNamed "omnibus/frame.sizes" = some 1 := by kernel_rfl
theorem fsz_y : (Tryd.prog.globals[1]?).map (·.type) = some 86 := by kernel_rfl
theorem sizes_of {W : World} {laid : List (String × DataW Unit)} (hL : laidMet Tryd.prog laid W)
    (h1 : ("omnibus/frame.sizes", Rows.laid_omnibus_frame_sizes) ∈ laid) : SizesAt W := by
  obtain ⟨g, t, cs, fuel, p, hg, hty, hvar, hd⟩ := Lib.laidMet.reads hL h1
  obtain rfl := Option.some.inj (fsz_g.symm.trans hg)
  obtain rfl := Option.some.inj (fsz_y.symm.trans hty)
  rw [fsz_eq] at hd
  have hcs := Lib.cells_of_tab fsz_t Tryd.underlying3 fsz_c1 fsz_c hd
  intro i hi
  have := World.var?_cell hg hvar i
  rw [this, ← Array.getElem?_toList, hcs]
  rw [List.getElem?_map, List.getElem?_eq_getElem hi]
  simp [List.getD, hi]
end Bw
end Go.Proofs.YtdhmjbnpdmneiacDoor

/- The table of kinds off the row's own condition: its cells hold the sizes, polynomials, starts and ends. -/
namespace Go.Proofs.YtdhmjbnpdmneiacDoor
open Go.ChangeShapes Go.WideShapes Go.ChangeAt Go.RowKit
namespace Bw
open Cm
def ruleZ (k : Nat) : List Int := [(kS k : Int), (kP k : Int), (kF k : Int), (kE k : Int)]
def rulesD : List (DataW Unit) := [0, 1, 2, 3, 4].map fun k => .agg ((ruleZ k).map fun z => .lit (.int .i64 z))
theorem five_at (k : Nat) (hk : k ≤ 4) : [0, 1, 2, 3, 4][k]? = some k := by
  match k, hk with
  | 0, _ => rfl
  | 1, _ => rfl
  | 2, _ => rfl
  | 3, _ => rfl
  | 4, _ => rfl
theorem rulesD_at (k : Nat) (hk : k ≤ 4) : rulesD[k]? = some (.agg ((ruleZ k).map fun z => .lit (.int .i64 z))) := by
  rw [rulesD, List.getElem?_map, five_at k hk]; rfl
theorem rules_eq : Rows.laid_omnibus_check_rules (H := Unit) = .agg rulesD := by kernel_rfl
theorem rules_t : Tryd.prog.underlying 47 = some (.array 5 46) := by kernel_rfl
theorem rule_c : Tryd.prog.cellsOf 46 = 4 := by kernel_rfl
theorem int_c : Tryd.prog.cellsOf 3 = 1 := by kernel_rfl
theorem rules_g : Tryd.prog.globalNamed "omnibus/check.rules" = some 0 := by kernel_rfl
theorem rules_y : (Tryd.prog.globals[0]?).map (·.type) = some 47 := by kernel_rfl
theorem rules_of {W : World} {laid : List (String × DataW Unit)} (hL : laidMet Tryd.prog laid W)
    (h1 : ("omnibus/check.rules", Rows.laid_omnibus_check_rules) ∈ laid) : RulesAt W := by
  obtain ⟨g, t, cs, fuel, p, hg, hty, hvar, hd⟩ := Lib.laidMet.reads hL h1
  obtain rfl := Option.some.inj (rules_g.symm.trans hg)
  obtain rfl := Option.some.inj (rules_y.symm.trans hty)
  rw [rules_eq] at hd
  intro k hk
  obtain ⟨fuel', d, q, hdk, htr⟩ := Lib.array_elem rules_t hd k (by omega)
  have hdd : d = .agg ((ruleZ k).map fun z => .lit (.int .i64 z)) := by
    have := rulesD_at k hk
    rw [hdk] at this
    exact Option.some.inj this
  subst hdd
  have hz := Lib.ints_of_struct Tryd.underlying46 (by
    intro i f h
    match i, h with
    | 0, h => cases h; exact ⟨Tryd.underlying3, rfl, int_c⟩
    | 1, h => cases h; exact ⟨Tryd.underlying3, rfl, int_c⟩
    | 2, h => cases h; exact ⟨Tryd.underlying3, rfl, int_c⟩
    | 3, h => cases h; exact ⟨Tryd.underlying3, rfl, int_c⟩
    | i + 4, h => simp at h) rule_c htr
  rw [rule_c] at hz
  have hc : ∀ j, j < 4 → cs[k * 4 + j]? = ((ruleZ k).map fun z => Value.int .i64 z)[j]? := by
    intro j hj
    rw [← hz, List.getElem?_take_of_lt hj, List.getElem?_drop, Array.getElem?_toList]
  have hv := fun j => World.var?_cell hg hvar j
  refine ⟨?_, ?_, ?_, ?_⟩
  · rw [hv, ← Nat.add_zero (k * 4), hc 0 (by omega)]; rfl
  · rw [hv, hc 1 (by omega)]; rfl
  · rw [hv, hc 2 (by omega)]; rfl
  · rw [hv, hc 3 (by omega)]; rfl
end Bw
end Go.Proofs.YtdhmjbnpdmneiacDoor

/- The one cell of the table of math/bits that is read, off the row's own condition. -/
namespace Go.Proofs.YtdhmjbnpdmneiacDoor
open Go.ChangeShapes Go.WideShapes Go.ChangeAt Go.RowKit
namespace Bw
def bruijnZ : List Int := [0, 1, 56, 2, 57, 49, 28, 3, 61, 58, 42, 50, 38, 29, 17, 4, 62, 47, 59, 36, 45, 43, 51, 22, 53, 39, 33, 30, 24, 18, 12, 5, 63, 55, 48, 27, 60, 41, 37, 16, 46, 35, 44, 21, 52, 32, 23, 11, 54, 26, 40, 15, 34, 20, 31, 10, 25, 14, 19, 9, 13, 8, 7, 6]
theorem bruijn_eq : Rows.laid_math_bits_deBruijn64tab (H := Unit) = Lib.tabData .u8 bruijnZ := by kernel_rfl
theorem bruijn_t : Tryd.prog.underlying 133 = some (.array 64 5) := by kernel_rfl
theorem bruijn_c : Tryd.prog.cellsOf 133 = 64 := by kernel_rfl
theorem bruijn_c1 : Tryd.prog.cellsOf 5 = 1 := by kernel_rfl
theorem bruijn_g : Tryd.prog.globalNamed "math/bits.deBruijn64tab" = some 5 := by kernel_rfl
theorem bruijn_y : (Tryd.prog.globals[5]?).map (·.type) = some 133 := by kernel_rfl
theorem bruijn_of {W : World} {laid : List (String × DataW Unit)} (hL : laidMet Tryd.prog laid W)
    (h1 : ("math/bits.deBruijn64tab", Rows.laid_math_bits_deBruijn64tab) ∈ laid) : W.cell? ⟨5, 1, none⟩ = some (.int .u8 1) := by
  obtain ⟨g, t, cs, fuel, p, hg, hty, hvar, hd⟩ := Lib.laidMet.reads hL h1
  obtain rfl := Option.some.inj (bruijn_g.symm.trans hg)
  obtain rfl := Option.some.inj (bruijn_y.symm.trans hty)
  rw [bruijn_eq] at hd
  have hcs := Lib.cells_of_tab bruijn_t Tryd.underlying5 bruijn_c1 bruijn_c hd
  have := World.var?_cell hg hvar 1
  rw [this, ← Array.getElem?_toList, hcs]
  rfl
end Bw
end Go.Proofs.YtdhmjbnpdmneiacDoor

/- The law FrameLongest: the longest row of any kind of frame is told as the document says, errors too. -/
namespace Go.Proofs.YtdhmjbnpdmneiacDoor
open Go.ChangeShapes Go.WideShapes Go.ChangeAt Go.RowKit
namespace Bw
open Bm Cm

set_option maxHeartbeats 8000000 in
theorem frameLong_many (lo fa : Bool) (n : Int) (w : World) (hS : SizesAt w) (hR : RulesAt w) (h : n < 0 ∨ 64 < n) :
    Calls Tryd.prog 4 #[.bool lo, .bool fa, .int .i64 n] w fun e w' => e = .returned (.bool true) ∧ Below w.heap.size w w' := by
  have a1 := long_many lo fa n w h
  have a2 := fun W h1 h2 => framed_any W h1 h2
  have HA1 := Hid.mk a1
  have HA2 := Hid.mk a2
  have HS := Hid.mk hS
  have HR := Hid.mk hR
  clear a1 a2 hS hR
  by_cases h1 : n < 0
  · clear h
    go_enter Tryd.func4, Tryd.ntmps4
    go_wp2_with fail
    refine HA1.out.mono ?_
    rintro e w1 ⟨rfl, hb1⟩
    have HB1 := Hid.mk hb1
    clear hb1
    go_wp2_with fail
    refine (HA2.out _ (HS.out.kept HB1.out) (HR.out.kept HB1.out)).mono ?_
    rintro e w2 ⟨rfl, hb2⟩
    have HB2 := Hid.mk (bl2 HB1.out hb2)
    clear hb2 HB1
    go_wp2_with fail
    refine (HA2.out _ (HS.out.kept HB2.out) (HR.out.kept HB2.out)).mono ?_
    rintro e w3 ⟨rfl, hb3⟩
    have HB3 := Hid.mk (bl2 HB2.out hb3)
    clear hb3 HB2
    go_wp2_with fail
    go_ret
    exact ⟨rfl, HB3.out⟩
  · have h2 : 64 < n := by omega
    have h3 : ¬ n < 0 := h1
    clear h
    go_enter Tryd.func4, Tryd.ntmps4
    go_wp2_with fail
    refine HA1.out.mono ?_
    rintro e w1 ⟨rfl, hb1⟩
    have HB1 := Hid.mk hb1
    clear hb1
    go_wp2_with fail
    refine (HA2.out _ (HS.out.kept HB1.out) (HR.out.kept HB1.out)).mono ?_
    rintro e w2 ⟨rfl, hb2⟩
    have HB2 := Hid.mk (bl2 HB1.out hb2)
    clear hb2 HB1
    go_wp2_with fail
    refine (HA2.out _ (HS.out.kept HB2.out) (HR.out.kept HB2.out)).mono ?_
    rintro e w3 ⟨rfl, hb3⟩
    have HB3 := Hid.mk (bl2 HB2.out hb3)
    clear hb3 HB2
    go_wp2_with fail
    go_ret
    exact ⟨rfl, HB3.out⟩

set_option maxHeartbeats 8000000 in
set_option maxRecDepth 100000 in
theorem frameLong_in (lo fa : Bool) (n : Nat) (w : World) (hS : SizesAt w) (hR : RulesAt w) (hD : w.cell? ⟨5, 1, none⟩ = some (.int .u8 1)) (hn : n ≤ 64) :
    Calls Tryd.prog 4 #[.bool lo, .bool fa, .int .i64 n] w fun e w' => e = .returned (.bool true) ∧ Below w.heap.size w w' := by
  obtain ⟨i0, hi, hz0, hz1, hz2⟩ := info_parts info_u8
  have hE : longE lo fa n = frE (frZ lo fa n) := by
    unfold longE frE frZ
    rw [if_neg (by omega)]
    simp
  have hE1 : frEn 0 lo fa false 0 n = frE (frZ lo fa n) := by unfold frE; simp [frZ]
  have a1 := long_in lo fa n w hS hR hn
  unfold longA at a1
  rw [hE, show longN lo fa (n : Int).toNat = longN lo fa n from rfl] at a1
  have a2 := fun W h1 h2 => framed_any W h1 h2
  have a3 := fun (a : Option Addr) (cap : Nat) W => checkFrame_any 0 lo fa false 0 a n cap W (by omega)
  rw [hE1] at a3
  have a4 := fun W h1 h2 => longestOf_any lo fa n W h1 hn h2
  have HA2 := Hid.mk a2
  have HA3 := Hid.mk a3
  have HA4 := Hid.mk a4
  have HS := Hid.mk hS
  have HR := Hid.mk hR
  have HD := Hid.mk hD
  have hn64 : (n : Int) ≤ 64 := by omega
  unfold frameV at HA3
  have zero_cells : cellsOf (List.replicate n (0 : UInt8)) = List.replicate n (Value.int .u8 0) := by simp [cellsOf]
  have HZC := Hid.mk zero_cells
  clear a2 a3 a4 hS hR hD hE hE1 zero_cells
  generalize longN lo fa n = LN at *
  by_cases h0 : frE (frZ lo fa n) = 0
  · rw [if_pos h0] at a1
    have HA1 := Hid.mk a1
    have HE0 := Hid.mk h0
    rw [h0] at HA3
    clear a1 h0
    go_enter Tryd.func4, Tryd.ntmps4
    go_wp2_with fail
    refine HA1.out.mono ?_
    rintro e w1 ⟨rfl, hb1⟩
    have HB1 := Hid.mk hb1
    clear hb1
    go_wp2_with fail
    refine (HA2.out _ (HS.out.kept HB1.out) (HR.out.kept HB1.out)).mono ?_
    rintro e w3 ⟨rfl, hb3⟩
    have HB3 := Hid.mk (bl2 HB1.out hb3)
    have hsz3 := HB3.out.size
    clear hb3 HB1
    go_wp2_with (at_make; refine wpList_make_full _ rfl (.tmp 38) (.tmp 38) 31 rfl w.heap.size 5 i0 (.int .u8 0) 1 Tryd.underlying31 hi hz0 hz1 .i64 .i64 _ _ n rfl rfl (by omega) (by omega) (by rw [hz2]; omega) (by unfold maxLen; omega) hsz3 ?_; intro w5 hown hgrow)
    have hb5 : Below w.heap.size w w5 := Below.grown HB3.out hgrow hsz3 (fun q hq => by cases hq)
    have HB5 := Hid.mk hb5
    clear hown hgrow hb5 HB3
    go_wp2_with fail
    refine (HA3.out _ _ _).mono ?_
    rintro e w6 ⟨rfl, hb6⟩
    have HB6 := Hid.mk (bl2 HB5.out hb6)
    clear hb6 HB5
    go_wp2_with fail
    refine (HA4.out _ (cell_kept HB6.out HD.out) HE0.out).mono ?_
    rintro e w7 ⟨rfl, hb7⟩
    have HB7 := Hid.mk (bl2 HB6.out hb7)
    clear hb7 HB6
    go_wp2_with fail
    go_ret
    exact ⟨rfl, HB7.out⟩
  · rw [if_neg h0] at a1
    have HA1 := Hid.mk a1
    have hne : (frE (frZ lo fa n) != 0) = true := by simpa using h0
    clear a1 h0 HA4
    generalize frE (frZ lo fa n) = ce at *
    go_enter Tryd.func4, Tryd.ntmps4
    go_wp2_with fail
    refine HA1.out.mono ?_
    rintro e w1 ⟨rfl, hb1⟩
    have HB1 := Hid.mk hb1
    clear hb1
    go_wp2_with fail
    refine (HA2.out _ (HS.out.kept HB1.out) (HR.out.kept HB1.out)).mono ?_
    rintro e w3 ⟨rfl, hb3⟩
    have HB3 := Hid.mk (bl2 HB1.out hb3)
    have hsz3 := HB3.out.size
    clear hb3 HB1
    go_wp2_with (at_make; refine wpList_make_full _ rfl (.tmp 38) (.tmp 38) 31 rfl w.heap.size 5 i0 (.int .u8 0) 1 Tryd.underlying31 hi hz0 hz1 .i64 .i64 _ _ n rfl rfl (by omega) (by omega) (by rw [hz2]; omega) (by unfold maxLen; omega) hsz3 ?_; intro w5 hown hgrow)
    have hb5 : Below w.heap.size w w5 := Below.grown HB3.out hgrow hsz3 (fun q hq => by cases hq)
    have HB5 := Hid.mk hb5
    clear hown hgrow hb5 HB3
    go_wp2_with fail
    refine (HA3.out _ _ _).mono ?_
    rintro e w6 ⟨rfl, hb6⟩
    have HB6 := Hid.mk (bl2 HB5.out hb6)
    clear hb6 HB5
    go_wp2_with fail
    go_ret
    exact ⟨rfl, HB6.out⟩
end Bw
namespace frameLongest
open Bw
theorem walk (lo fa : Bool) (n : Int) (w : World) (_ : (Lit.int .i64 n).wf = true) (hL : laidMet Tryd.prog Rows.frameLongestRow.laid w) :
    Calls Tryd.prog 4 #[.bool lo, .bool fa, .int .i64 n] w fun e w' => e = .returned (.bool true) ∧ Below w.heap.size w w' := by
  have hS := sizes_of hL (by simp [Rows.frameLongestRow])
  have hR := rules_of hL (by simp [Rows.frameLongestRow])
  have hD := bruijn_of hL (by simp [Rows.frameLongestRow])
  by_cases h : n < 0 ∨ 64 < n
  · exact frameLong_many lo fa n w hS hR h
  · obtain ⟨m, rfl⟩ : ∃ m : Nat, n = (m : Int) := ⟨n.toNat, by omega⟩
    exact frameLong_in lo fa m w hS hR hD (by omega)
end frameLongest
end Go.Proofs.YtdhmjbnpdmneiacDoor
