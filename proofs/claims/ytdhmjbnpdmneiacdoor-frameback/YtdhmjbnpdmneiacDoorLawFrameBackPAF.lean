/- Joined out of our texts: FbackWalk. -/
import Derived.Test.YtdhmjbnpdmneiacDoorLawFrameBackPAE
/- The law FrameBack: what is sent is read, whatever follows, and is no longer than is told. -/
namespace Go.Proofs.YtdhmjbnpdmneiacDoor
open Go.ChangeShapes Go.WideShapes Go.ChangeAt Go.RowKit
namespace Bw
open Bm Cm Classical

theorem longE_ok {f : Fr} (hE : frE f = 0) : longE f.lo f.fa (f.dt.length : Int) = 0 := by
  obtain ⟨-, -, -, -, -, -, e7, e8, e9⟩ := frE_ok hE
  unfold longE frEn
  rw [if_neg (by omega)]
  have h1 : (0 : Int) ≤ topI f.lo := by unfold topI; split <;> omega
  rw [if_neg (by omega), if_neg (by simp), if_neg (by simp), Int.toNat_natCast, if_neg, if_pos e9]
  rintro (h | ⟨h, h'⟩)
  · omega
  · have := e8 h'; omega
theorem head_lenZ (f : Fr) : (headL (frZ f.lo f.fa f.dt.length)).length = (headL f).length := by
  rw [headL_len, headL_len]
  have : midL (frZ f.lo f.fa f.dt.length) = midL f := rfl
  rw [this]
  simp only [frZ, List.length_replicate]
  rfl
theorem putF_mostN (l : List UInt8) (h : rowB l = true) (hl : l ≠ []) : (putF l).length ≤ mostN l.length := by
  obtain ⟨k, h1, h2⟩ := putF_most l h
  have hne : putF l ≠ [] := by
    intro e
    have hlen : (putF l).length = 0 := by rw [e]; rfl
    have : 1 ≤ l.length := by cases l with | nil => exact absurd rfl hl | cons c l => simp
    omega
  have := endR_pos hne
  unfold mostN
  omega
theorem bits_most (f : Fr) : (bitsL f).length ≤ longN f.lo f.fa f.dt.length := by
  have hh := head_lenZ f
  have hne : headL f ≠ [] := by unfold headL; simp
  unfold longN
  rw [hh]
  cases hfa : f.fa
  · rw [bitsL_len]
    have hp : preL f = putF (headL f ++ sumL 0 (headL f)) := by unfold preL; rw [hfa]; rfl
    have h1 := putF_mostN (headL f ++ sumL 0 (headL f)) (by rw [rowB_append, headL_row, sumL_row]; rfl) (by simp [hne])
    have hs : (sumL 0 (headL f)).length = 15 := sumL_len 0 _
    rw [List.length_append, hs] at h1
    rw [hp]
    simp only [Bool.false_eq_true, if_false]
    omega
  · rw [bitsL_len]
    have hp : preL f = putF (headL f) ++ fastL (headL f) (putF (headL f)) f.dt.length := by unfold preL; rw [hfa]; rfl
    have h1 := putF_mostN (headL f) (headL_row f) hne
    rw [hp, List.length_append, fastL_fixed, fixedL_len]
    simp only [if_true]
    omega

set_option maxHeartbeats 8000000 in
theorem frameBack_bad (f : Fr) (a : Option Addr) (len cap : Nat) (r : ByteArray) (w : World) (hS : SizesAt w) (hR : RulesAt w) (hby : IsBytes w a len cap f.dt) (hE : frE f ≠ 0) :
    Calls Tryd.prog 5 #[frameV f.id f.lo f.fa f.re f.sz a len cap, .string r] w fun e w' => e = .returned (.bool true) ∧ Below w.heap.size w w' := by
  have hB := below_box w f.id f.lo f.fa f.re f.sz a len cap
  have a1 := frBits_bad f a len cap _ (hS.kept hB) (by have := hby.2.1; have := hby.2.2.1; omega) hby.1 hE
  have a2 := fun W hW1 hW2 => framed_any W hW1 hW2
  have hne : (frE f != 0) = true := by simpa using hE
  generalize frE f = ce at *
  have HA1 := Hid.mk a1
  have HA2 := Hid.mk a2
  have HB := Hid.mk hB
  have HS := Hid.mk hS
  have HR := Hid.mk hR
  unfold frameC at HA1 HB
  unfold frameV at HA1 ⊢
  clear a1 a2 hB hS hR hby hE
  go_enter Tryd.func5, Tryd.ntmps5
  go_wp2_with fail
  refine HA1.out.mono ?_
  rintro e w1 ⟨rfl, hb1⟩
  have HB1 := Hid.mk (bl2 HB.out hb1)
  clear hb1 HB HA1
  go_wp2_with fail
  refine (HA2.out _ (HS.out.kept HB1.out) (HR.out.kept HB1.out)).mono ?_
  rintro e w2 ⟨rfl, hb2⟩
  have HB2 := Hid.mk (bl2 HB1.out hb2)
  clear hb2 HB1
  go_wp2_with fail
  refine (HA2.out _ (HS.out.kept HB2.out) (HR.out.kept HB2.out)).mono ?_
  rintro e w3 ⟨rfl, hb3⟩
  have HB3 := Hid.mk (bl2 HB2.out hb3)
  clear hb3 HB2
  go_wp2_with fail
  go_ret
  exact ⟨rfl, HB3.out⟩
set_option maxHeartbeats 8000000 in
theorem frameBack_ok (f : Fr) (a : Option Addr) (len cap : Nat) (r : ByteArray) (w : World) (hS : SizesAt w) (hR : RulesAt w) (hby : IsBytes w a len cap f.dt) (hr : r.size ≤ maxLen) (hE : frE f = 0) :
    Calls Tryd.prog 5 #[frameV f.id f.lo f.fa f.re f.sz a len cap, .string r] w fun e w' => e = .returned (.bool true) ∧ Below w.heap.size w w' := by
  have hB := below_box w f.id f.lo f.fa f.re f.sz a len cap
  have hK := FrAt.box w f.id f.lo f.fa f.re f.sz a len cap
  have hY := isBytes_below hby hB
  have hdl : f.dt.length = len := hby.1
  have a1 := frBits_ok f a len cap _ (hS.kept hB) (hR.kept hB) hY hE
  have a2 := fun W hW1 hW2 => framed_any W hW1 hW2
  have a3 := fun W => check_any r W hr
  have hpl := preL_len f hE
  have hbl := bitsL_len f
  have hBl := mk_list (bitsL f)
  have hmost := bits_most f
  have hLE := longE_ok hE
  rw [hdl] at hmost hLE
  have a4 := fun W h1 h2 h3 h4 => readBack_any f onesL r.data.toList (⟨(bitsL f).toArray⟩ ++ r) W h1 h2 hE (.inl rfl) (by rw [ba_cat, hBl, bitsL_pre, List.append_assoc]) h3 h4
  have a5 := fun W hW1 hW2 => frLong_any f.lo f.fa (len : Int) W hW1 hW2
  have hLA : longA f.lo f.fa (len : Int) = .tuple #[.int .i64 (longN f.lo f.fa len), .int .i64 0] := by unfold longA; rw [if_pos hLE]; rfl
  rw [hLA] at a5
  generalize longN f.lo f.fa len = LN at *
  have a6 := fun W a2' n2 c2' h1 h2 => same_any f f a a2' len cap n2 c2' W h1 h2
  have hsame : decide (f = f) = true := by simp
  rw [hsame] at a6
  generalize ByteArray.mk (bitsL f).toArray = X at *
  have hXs : X.size = (preL f).length + 10 := by rw [ba_size hBl, hbl]
  rw [← hXs] at a4
  have hXL : (X.size : Int) ≤ (LN : Int) := by rw [ba_size hBl]; omega
  have hXm : X.size ≤ 760 := by omega
  have hrm : r.size ≤ 9223372036854775807 := hr
  have hsz : (X ++ r).size = X.size + r.size := ByteArray.size_append
  have HA1 := Hid.mk a1
  have HA2 := Hid.mk a2
  have HA3 := Hid.mk a3
  have HA4 := Hid.mk a4
  have HA5 := Hid.mk a5
  have HA6 := Hid.mk a6
  have HB := Hid.mk hB
  have HK := Hid.mk hK
  have HY := Hid.mk hY
  have HS := Hid.mk hS
  have HR := Hid.mk hR
  have HSZ := Hid.mk hsz
  have hlen : (len : Int) ≤ 64 := by have := (frE_ok hE).2.2.2.2.2.2.1; omega
  unfold frameC at HA1 HB HK HY
  unfold frameV at HA1 HA4 HA6 ⊢
  clear a1 a2 a3 a4 a5 a6 hB hK hY hS hR hby hE hpl hbl hBl hmost hLE hLA hsame hXs hsz hr hdl
  by_cases hc : checkE r.data.toList = 0
  · obtain ⟨hr1, hrr⟩ := small_of_check hc
    rw [hc] at HA3
    have HRR := Hid.mk hrr
    clear hc hrr
    by_cases hbig : 1000 < X.size + r.size
    · have hb' : (1000 : Int) < (X.size : Int) + (r.size : Int) := by omega
      go_enter Tryd.func5, Tryd.ntmps5
      go_wp2_with fail
      refine HA1.out.mono ?_
      rintro e w1 ⟨rfl, hb1⟩
      have HB1 := Hid.mk (bl2 HB.out hb1)
      have HK1 := Hid.mk (HK.out.kept hb1)
      have HY1 := Hid.mk (isBytes_below HY.out hb1)
      clear hb1 HB HK HY HA1
      go_wp2_with fail
      refine (HA2.out _ (HS.out.kept HB1.out) (HR.out.kept HB1.out)).mono ?_
      rintro e w2 ⟨rfl, hb2⟩
      have HB2 := Hid.mk (bl2 HB1.out hb2)
      have HK2 := Hid.mk (HK1.out.kept hb2)
      have HY2 := Hid.mk (isBytes_below HY1.out hb2)
      clear hb2 HB1 HK1 HY1
      go_wp2_with fail
      refine (HA3.out _).mono ?_
      rintro e w3 ⟨rfl, hb3⟩
      have HB3 := Hid.mk (bl2 HB2.out hb3)
      clear hb3 HB2
      go_wp2_with fail
      refine (HA2.out _ (HS.out.kept HB3.out) (HR.out.kept HB3.out)).mono ?_
      rintro e w4 ⟨rfl, hb4⟩
      have HB4 := Hid.mk (bl2 HB3.out hb4)
      clear hb4 HB3
      go_wp2_with fail
      go_ret
      exact ⟨rfl, HB4.out⟩
    · have hb' : (X.size : Int) + (r.size : Int) ≤ 1000 := by omega
      have HN := Hid.mk (show (X ++ r).size ≤ 1000 by rw [HSZ.out]; omega)
      clear hbig
      go_enter Tryd.func5, Tryd.ntmps5
      go_wp2_with fail
      refine HA1.out.mono ?_
      rintro e w1 ⟨rfl, hb1⟩
      have HB1 := Hid.mk (bl2 HB.out hb1)
      have HK1 := Hid.mk (HK.out.kept hb1)
      have HY1 := Hid.mk (isBytes_below HY.out hb1)
      clear hb1 HB HK HY HA1
      go_wp2_with fail
      refine (HA2.out _ (HS.out.kept HB1.out) (HR.out.kept HB1.out)).mono ?_
      rintro e w2 ⟨rfl, hb2⟩
      have HB2 := Hid.mk (bl2 HB1.out hb2)
      have HK2 := Hid.mk (HK1.out.kept hb2)
      have HY2 := Hid.mk (isBytes_below HY1.out hb2)
      clear hb2 HB1 HK1 HY1
      go_wp2_with fail
      refine (HA3.out _).mono ?_
      rintro e w3 ⟨rfl, hb3⟩
      have HB3 := Hid.mk (bl2 HB2.out hb3)
      have HK3 := Hid.mk (HK2.out.kept hb3)
      have HY3 := Hid.mk (isBytes_below HY2.out hb3)
      clear hb3 HB2 HK2 HY2
      go_wp2_with fail
      refine (HA4.out _ (HS.out.kept HB3.out) (HR.out.kept HB3.out) HRR.out HN.out).mono ?_
      rintro e w4 ⟨ag, lg, cg, rfl, hbg, hb4⟩
      have hb5 : Below w4.heap.size w4 (w4.alloc (.cells #[.int .i64 f.id, .bool f.lo, .bool f.fa, .bool f.re, .int .i64 f.sz, .slice ag lg cg] 33)) := (Below.refl _ _).alloc (Nat.le_refl _) _
      have hb45 := bl2 hb4 hb5
      have HB5 := Hid.mk (bl2 HB3.out hb45)
      have HK5 := Hid.mk (HK3.out.kept hb45)
      obtain ⟨k0, k1, k2, k3, k4, k5⟩ := HK5.out
      have HY5 := Hid.mk (isBytes_below HY3.out hb45)
      have HG5 := Hid.mk (isBytes_below hbg hb5)
      have HKG := Hid.mk (FrAt.box w4 f.id f.lo f.fa f.re f.sz ag lg cg)
      unfold frameC at HKG
      clear hb4 hb5 hb45 hbg HB3 HK3 HY3 HA4
      go_wp2_with fail
      refine (HA5.out _ (HS.out.kept HB5.out) (HR.out.kept HB5.out)).mono ?_
      rintro e w6 ⟨rfl, hb6⟩
      have HB6 := Hid.mk (bl2 HB5.out hb6)
      obtain ⟨j0, j1, j2, j3, j4, j5⟩ := HK5.out.kept hb6
      obtain ⟨g0, g1, g2, g3, g4, g5⟩ := HKG.out.kept hb6
      have HY6 := Hid.mk (isBytes_below HY5.out hb6)
      have HG6 := Hid.mk (isBytes_below HG5.out hb6)
      clear hb6 HB5 HK5 HY5 HG5 HKG k0 k1 k2 k3 k4 k5 HA5
      go_wp2_with fail
      refine (HA6.out _ _ _ _ HY6.out HG6.out).mono ?_
      rintro e w7 ⟨rfl, hb7⟩
      have HB7 := Hid.mk (bl2 HB6.out hb7)
      clear hb7 HB6 HY6 HG6 j0 j1 j2 j3 j4 j5 g0 g1 g2 g3 g4 g5
      go_wp2_with fail
      go_ret
      exact ⟨rfl, HB7.out⟩
  · have hne : (checkE r.data.toList != 0) = true := by simpa using hc
    generalize checkE r.data.toList = ce at *
    go_enter Tryd.func5, Tryd.ntmps5
    go_wp2_with fail
    refine HA1.out.mono ?_
    rintro e w1 ⟨rfl, hb1⟩
    have HB1 := Hid.mk (bl2 HB.out hb1)
    have HK1 := Hid.mk (HK.out.kept hb1)
    have HY1 := Hid.mk (isBytes_below HY.out hb1)
    clear hb1 HB HK HY HA1
    go_wp2_with fail
    refine (HA2.out _ (HS.out.kept HB1.out) (HR.out.kept HB1.out)).mono ?_
    rintro e w2 ⟨rfl, hb2⟩
    have HB2 := Hid.mk (bl2 HB1.out hb2)
    have HK2 := Hid.mk (HK1.out.kept hb2)
    have HY2 := Hid.mk (isBytes_below HY1.out hb2)
    clear hb2 HB1 HK1 HY1
    go_wp2_with fail
    refine (HA3.out _).mono ?_
    rintro e w3 ⟨rfl, hb3⟩
    have HB3 := Hid.mk (bl2 HB2.out hb3)
    clear hb3 HB2
    go_wp2_with fail
    refine (HA2.out _ (HS.out.kept HB3.out) (HR.out.kept HB3.out)).mono ?_
    rintro e w4 ⟨rfl, hb4⟩
    have HB4 := Hid.mk (bl2 HB3.out hb4)
    clear hb4 HB3
    go_wp2_with fail
    go_ret
    exact ⟨rfl, HB4.out⟩
end Bw
namespace frameBack
open Bw
theorem walk (id : Int) (lo fa re : Bool) (sz : Int) (a : Option Addr) (len cap : Nat) (zs : List Int) (r : ByteArray) (w : World) (_ : (Lit.int .i64 id).wf = true) (_ : (Lit.int .i64 sz).wf = true) (hz : IsRow .u8 w a len cap zs) (hr : r.size ≤ maxLen) (hL : laidMet Tryd.prog Rows.frameBackRow.laid w) :
    Calls Tryd.prog 5 #[frameV id lo fa re sz a len cap, .string r] w fun e w' => e = .returned (.bool true) ∧ Below w.heap.size w w' := by
  have hS := sizes_of hL (by simp [Rows.frameBackRow])
  have hR := rules_of hL (by simp [Rows.frameBackRow])
  obtain ⟨l, hl⟩ := isBytes_of_row hz
  by_cases hE : frE ⟨id, lo, fa, re, sz, l⟩ = 0
  · exact frameBack_ok ⟨id, lo, fa, re, sz, l⟩ a len cap r w hS hR hl hr hE
  · exact frameBack_bad ⟨id, lo, fa, re, sz, l⟩ a len cap r w hS hR hl hE
end frameBack
end Go.Proofs.YtdhmjbnpdmneiacDoor
