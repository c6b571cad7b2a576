/- Joined out of our texts: FnamesWalk. -/
import Derived.Test.YtacfkdgepknpkalDoorLawFrameNamesPAE
/- The law FrameNames: two frames of one kind and with one name have one number; what comes first by its name has no greater number. -/
namespace Go.Proofs.YtacfkdgepknpkalDoor
open Go.ChangeShapes Go.WideShapes Go.ChangeAt Go.RowKit
namespace Bw
open Bm Cm

theorem name_shape (f : Fr) : ∃ s : ByteArray, nameA f = .tuple #[.string s, .int .i64 (frE f)] ∧ (frE f = 0 → s.data.toList = nameL f) ∧ s.size ≤ 40 := by
  unfold nameA
  by_cases h : frE f = 0
  · rw [if_pos h, h]
    exact ⟨_, rfl, fun _ => mk_list _, by rw [mk_size, nameL_len]; split <;> omega⟩
  · rw [if_neg h]
    exact ⟨⟨#[]⟩, rfl, fun h' => absurd h' h, Nat.zero_le _⟩
theorem ba_listEqN {A B : ByteArray} {x y : List UInt8} (hA : A.data.toList = x) (hB : B.data.toList = y) : (A.toList == B.toList) = decide (x = y) := by
  rw [ByteArray.toList_eq, ByteArray.toList_eq, hA, hB, Bool.eq_iff_iff, beq_iff_eq, decide_eq_true_iff]
theorem gtr_run (s1 s2 : ByteArray) (q : Bool) (h : (!(Op.bytesLess s1.toList s2.toList || s1.toList == s2.toList)) = q) (W : World) : (binOp .gtr 9 (.string s1) (.string s2)).run Tryd.prog W = .ok (.bool q) W := by
  have e : binOp .gtr 9 (.string s1) (.string s2) = pure (.bool !(Op.bytesLess s1.toList s2.toList || s1.toList == s2.toList)) := by simp [binOp, Op.stringOp]
  rw [e, h]; rfl
set_option maxHeartbeats 8000000 in
theorem frameNames_bad1 (f g : Fr) (a : Option Addr) (len cap : Nat) (a2 : Option Addr) (len2 cap2 : Nat) (w : World) (hS : SizesAt w) (hR : RulesAt w) (hby : IsBytes w a len cap f.dt) (hby2 : IsBytes w a2 len2 cap2 g.dt) (hE : frE f ≠ 0) :
    Calls Tryd.prog 4 #[frameV f.id f.lo f.fa f.re f.sz a len cap, frameV g.id g.lo g.fa g.re g.sz a2 len2 cap2] w fun e w' => e = .returned (.bool true) ∧ Below w.heap.size w w' := by
  have hB1 := below_box w f.id f.lo f.fa f.re f.sz a len cap
  have hB2 := below_box (w.alloc (frameC f.id f.lo f.fa f.re f.sz a len cap)) g.id g.lo g.fa g.re g.sz a2 len2 cap2
  have hB := bl2 hB1 hB2
  have hK1 := (FrAt.box w f.id f.lo f.fa f.re f.sz a len cap).kept hB2
  have hK2 := FrAt.box (w.alloc (frameC f.id f.lo f.fa f.re f.sz a len cap)) g.id g.lo g.fa g.re g.sz a2 len2 cap2
  have hsz : (w.alloc (frameC f.id f.lo f.fa f.re f.sz a len cap)).heap.size = w.heap.size + 1 := by simp
  rw [hsz] at hK2
  have hY1 := isBytes_below hby hB
  have hY2 := isBytes_below hby2 hB
  have a1 := frName_any f a len cap _ (hS.kept hB) (by have := hby.2.1; have := hby.2.2.1; omega) hby.1
  have aa2 := fun W h1 => frName_any g a2 len2 cap2 W h1 (by have := hby2.2.1; have := hby2.2.2.1; omega) hby2.1
  have a3 := fun W h1 h2 => framed_any W h1 h2
  obtain ⟨s1, hs1, hl1, hz1⟩ := name_shape f
  obtain ⟨s2, hs2, hl2, hz2⟩ := name_shape g
  rw [hs1] at a1
  rw [hs2] at aa2
  have hne : (frE f != 0) = true := by simpa using hE
  have HA1 := Hid.mk a1
  have HA2 := Hid.mk aa2
  have HA3 := Hid.mk a3
  have HB := Hid.mk hB
  have HK1 := Hid.mk hK1
  have HK2 := Hid.mk hK2
  have HY1 := Hid.mk hY1
  have HY2 := Hid.mk hY2
  have HS := Hid.mk hS
  have HR := Hid.mk hR
  unfold frameC at HA1 HB HK1 HK2 HY1 HY2
  unfold frameV at HA1 HA2 ⊢
  clear a1 aa2 a3 hB1 hB2 hB hK1 hK2 hY1 hY2 hS hR hby hby2 hsz hs1 hs2 hl1 hl2
  generalize frE f = ce at *
  generalize frE g = cg at *
  go_enter Tryd.func4, Tryd.ntmps4
  go_wp2_with fail
  refine HA1.out.mono ?_
  rintro e w1 ⟨rfl, hb1⟩
  have HB1 := Hid.mk (bl2 HB.out hb1)
  have HK11 := Hid.mk (HK1.out.kept hb1)
  have HK21 := Hid.mk (HK2.out.kept hb1)
  have HY11 := Hid.mk (isBytes_below HY1.out hb1)
  have HY21 := Hid.mk (isBytes_below HY2.out hb1)
  obtain ⟨k0, k1, k2, k3, k4, k5⟩ := HK21.out
  clear hb1 HB HK1 HK2 HY1 HY2 HA1
  go_wp2_with fail
  refine (HA2.out _ (HS.out.kept HB1.out)).mono ?_
  rintro e w2 ⟨rfl, hb2⟩
  have HB2 := Hid.mk (bl2 HB1.out hb2)
  have HK12 := Hid.mk (HK11.out.kept hb2)
  have HK22 := Hid.mk (HK21.out.kept hb2)
  have HY12 := Hid.mk (isBytes_below HY11.out hb2)
  have HY22 := Hid.mk (isBytes_below HY21.out hb2)
  clear hb2 HB1 HK11 HK21 HY11 HY21 HA2 k0 k1 k2 k3 k4 k5
  go_wp2_with fail
  refine (HA3.out _ (HS.out.kept HB2.out) (HR.out.kept HB2.out)).mono ?_
  rintro e w3 ⟨rfl, hb3⟩
  have HB3 := Hid.mk (bl2 HB2.out hb3)
  have HK13 := Hid.mk (HK12.out.kept hb3)
  have HK23 := Hid.mk (HK22.out.kept hb3)
  have HY13 := Hid.mk (isBytes_below HY12.out hb3)
  have HY23 := Hid.mk (isBytes_below HY22.out hb3)
  clear hb3 HB2 HK12 HK22 HY12 HY22
  go_wp2_with fail
  refine (HA3.out _ (HS.out.kept HB3.out) (HR.out.kept HB3.out)).mono ?_
  rintro e w4 ⟨rfl, hb4⟩
  have HB4 := Hid.mk (bl2 HB3.out hb4)
  clear hb4 HB3
  go_wp2_with fail
  go_ret
  exact ⟨rfl, HB4.out⟩
set_option maxHeartbeats 8000000 in
theorem frameNames_bad2 (f g : Fr) (a : Option Addr) (len cap : Nat) (a2 : Option Addr) (len2 cap2 : Nat) (w : World) (hS : SizesAt w) (hR : RulesAt w) (hby : IsBytes w a len cap f.dt) (hby2 : IsBytes w a2 len2 cap2 g.dt) (hE : frE f = 0) (hE2 : frE g ≠ 0) :
    Calls Tryd.prog 4 #[frameV f.id f.lo f.fa f.re f.sz a len cap, frameV g.id g.lo g.fa g.re g.sz a2 len2 cap2] w fun e w' => e = .returned (.bool true) ∧ Below w.heap.size w w' := by
  have hB1 := below_box w f.id f.lo f.fa f.re f.sz a len cap
  have hB2 := below_box (w.alloc (frameC f.id f.lo f.fa f.re f.sz a len cap)) g.id g.lo g.fa g.re g.sz a2 len2 cap2
  have hB := bl2 hB1 hB2
  have hK1 := (FrAt.box w f.id f.lo f.fa f.re f.sz a len cap).kept hB2
  have hK2 := FrAt.box (w.alloc (frameC f.id f.lo f.fa f.re f.sz a len cap)) g.id g.lo g.fa g.re g.sz a2 len2 cap2
  have hsz : (w.alloc (frameC f.id f.lo f.fa f.re f.sz a len cap)).heap.size = w.heap.size + 1 := by simp
  rw [hsz] at hK2
  have hY1 := isBytes_below hby hB
  have hY2 := isBytes_below hby2 hB
  have a1 := frName_any f a len cap _ (hS.kept hB) (by have := hby.2.1; have := hby.2.2.1; omega) hby.1
  have aa2 := fun W h1 => frName_any g a2 len2 cap2 W h1 (by have := hby2.2.1; have := hby2.2.2.1; omega) hby2.1
  have a3 := fun W h1 h2 => framed_any W h1 h2
  obtain ⟨s1, hs1, hl1, hz1⟩ := name_shape f
  obtain ⟨s2, hs2, hl2, hz2⟩ := name_shape g
  rw [hs1] at a1
  rw [hs2] at aa2
  have hne : (frE g != 0) = true := by simpa using hE2
  rw [hE] at a1
  have HA1 := Hid.mk a1
  have HA2 := Hid.mk aa2
  have HA3 := Hid.mk a3
  have HB := Hid.mk hB
  have HK1 := Hid.mk hK1
  have HK2 := Hid.mk hK2
  have HY1 := Hid.mk hY1
  have HY2 := Hid.mk hY2
  have HS := Hid.mk hS
  have HR := Hid.mk hR
  unfold frameC at HA1 HB HK1 HK2 HY1 HY2
  unfold frameV at HA1 HA2 ⊢
  clear a1 aa2 a3 hB1 hB2 hB hK1 hK2 hY1 hY2 hS hR hby hby2 hsz hs1 hs2 hl1 hl2
  generalize frE g = cg at *
  go_enter Tryd.func4, Tryd.ntmps4
  go_wp2_with fail
  refine HA1.out.mono ?_
  rintro e w1 ⟨rfl, hb1⟩
  have HB1 := Hid.mk (bl2 HB.out hb1)
  have HK11 := Hid.mk (HK1.out.kept hb1)
  have HK21 := Hid.mk (HK2.out.kept hb1)
  have HY11 := Hid.mk (isBytes_below HY1.out hb1)
  have HY21 := Hid.mk (isBytes_below HY2.out hb1)
  obtain ⟨k0, k1, k2, k3, k4, k5⟩ := HK21.out
  clear hb1 HB HK1 HK2 HY1 HY2 HA1
  go_wp2_with fail
  refine (HA2.out _ (HS.out.kept HB1.out)).mono ?_
  rintro e w2 ⟨rfl, hb2⟩
  have HB2 := Hid.mk (bl2 HB1.out hb2)
  have HK12 := Hid.mk (HK11.out.kept hb2)
  have HK22 := Hid.mk (HK21.out.kept hb2)
  have HY12 := Hid.mk (isBytes_below HY11.out hb2)
  have HY22 := Hid.mk (isBytes_below HY21.out hb2)
  clear hb2 HB1 HK11 HK21 HY11 HY21 HA2 k0 k1 k2 k3 k4 k5
  go_wp2_with fail
  refine (HA3.out _ (HS.out.kept HB2.out) (HR.out.kept HB2.out)).mono ?_
  rintro e w3 ⟨rfl, hb3⟩
  have HB3 := Hid.mk (bl2 HB2.out hb3)
  have HK13 := Hid.mk (HK12.out.kept hb3)
  have HK23 := Hid.mk (HK22.out.kept hb3)
  have HY13 := Hid.mk (isBytes_below HY12.out hb3)
  have HY23 := Hid.mk (isBytes_below HY22.out hb3)
  clear hb3 HB2 HK12 HK22 HY12 HY22
  go_wp2_with fail
  refine (HA3.out _ (HS.out.kept HB3.out) (HR.out.kept HB3.out)).mono ?_
  rintro e w4 ⟨rfl, hb4⟩
  have HB4 := Hid.mk (bl2 HB3.out hb4)
  clear hb4 HB3
  go_wp2_with fail
  go_ret
  exact ⟨rfl, HB4.out⟩
set_option maxHeartbeats 8000000 in
theorem names_eq (id1 id2 : Int) (lo fa1 fa2 re1 re2 : Bool) (sz1 sz2 : Int) (dt1 dt2 : List UInt8) (a : Option Addr) (len cap : Nat) (a2 : Option Addr) (len2 cap2 : Nat) (w : World) (hS : SizesAt w) (hR : RulesAt w) (hby : IsBytes w a len cap dt1) (hby2 : IsBytes w a2 len2 cap2 dt2) (hE : frE (⟨id1, lo, fa1, re1, sz1, dt1⟩ : Fr) = 0) (hE2 : frE (⟨id2, lo, fa2, re2, sz2, dt2⟩ : Fr) = 0) (hid : id1 = id2) (hre : re1 = re2) :
    Calls Tryd.prog 4 #[frameV id1 lo fa1 re1 sz1 a len cap, frameV id2 lo fa2 re2 sz2 a2 len2 cap2] w fun e w' => e = .returned (.bool true) ∧ Below w.heap.size w w' := by
  have hB1 := below_box w id1 lo fa1 re1 sz1 a len cap
  have hB2 := below_box (w.alloc (frameC id1 lo fa1 re1 sz1 a len cap)) id2 lo fa2 re2 sz2 a2 len2 cap2
  have hB := bl2 hB1 hB2
  have hK1 := (FrAt.box w id1 lo fa1 re1 sz1 a len cap).kept hB2
  have hK2 := FrAt.box (w.alloc (frameC id1 lo fa1 re1 sz1 a len cap)) id2 lo fa2 re2 sz2 a2 len2 cap2
  have hsz : (w.alloc (frameC id1 lo fa1 re1 sz1 a len cap)).heap.size = w.heap.size + 1 := by simp
  rw [hsz] at hK2
  have hY1 := isBytes_below hby hB
  have hY2 := isBytes_below hby2 hB
  have a1 := frName_any ⟨id1, lo, fa1, re1, sz1, dt1⟩ a len cap _ (hS.kept hB) (by have := hby.2.1; have := hby.2.2.1; omega) hby.1
  have aa2 := fun W h1 => frName_any ⟨id2, lo, fa2, re2, sz2, dt2⟩ a2 len2 cap2 W h1 (by have := hby2.2.1; have := hby2.2.2.1; omega) hby2.1
  have a3 := fun W h1 h2 => framed_any W h1 h2
  obtain ⟨s1, hs1, hl1, hz1⟩ := name_shape ⟨id1, lo, fa1, re1, sz1, dt1⟩
  obtain ⟨s2, hs2, hl2, hz2⟩ := name_shape ⟨id2, lo, fa2, re2, sz2, dt2⟩
  rw [hs1] at a1
  rw [hs2] at aa2
  rw [hE] at a1
  rw [hE2] at aa2
  have e1 := hl1 hE
  have e2 := hl2 hE2
  simp only at a1 aa2
  have c1 := ba_listEqN e1 e2
  rw [names_same (⟨id1, lo, fa1, re1, sz1, dt1⟩ : Fr) (⟨id2, lo, fa2, re2, sz2, dt2⟩ : Fr) hE hE2 rfl] at c1
  simp only at c1
  have lt := fun h => names_less (⟨id1, lo, fa1, re1, sz1, dt1⟩ : Fr) (⟨id2, lo, fa2, re2, sz2, dt2⟩ : Fr) hE hE2 rfl h
  simp only at lt
  have hg := gtr_run s1 s2
  have k1 : (s1.toList == s2.toList) = true := by rw [c1]; simp [hid, hre]
  have gt := hg false (by rw [k1]; simp)
  subst hid hre
  have HA1 := Hid.mk a1
  have HA2 := Hid.mk aa2
  have HA3 := Hid.mk a3
  have HB := Hid.mk hB
  have HK1 := Hid.mk hK1
  have HK2 := Hid.mk hK2
  have HY1 := Hid.mk hY1
  have HY2 := Hid.mk hY2
  have HS := Hid.mk hS
  have HR := Hid.mk hR
  unfold frameC at HA1 HB HK1 HK2 HY1 HY2
  unfold frameV at HA1 HA2 ⊢
  clear a1 aa2 a3 hB1 hB2 hB hK1 hK2 hY1 hY2 hS hR hby hby2 hsz hs1 hs2 hl1 hl2
  clear e1 e2 hE hE2 lt hg c1
  go_enter Tryd.func4, Tryd.ntmps4
  go_wp2_with fail
  refine HA1.out.mono ?_
  rintro e w1 ⟨rfl, hb1⟩
  have HB1 := Hid.mk (bl2 HB.out hb1)
  have HK11 := Hid.mk (HK1.out.kept hb1)
  have HK21 := Hid.mk (HK2.out.kept hb1)
  have HY11 := Hid.mk (isBytes_below HY1.out hb1)
  have HY21 := Hid.mk (isBytes_below HY2.out hb1)
  obtain ⟨k0, k1, k2, k3, k4, k5⟩ := HK21.out
  clear hb1 HB HK1 HK2 HY1 HY2 HA1
  go_wp2_with fail
  refine (HA2.out _ (HS.out.kept HB1.out)).mono ?_
  rintro e w2 ⟨rfl, hb2⟩
  have HB2 := Hid.mk (bl2 HB1.out hb2)
  have HK12 := Hid.mk (HK11.out.kept hb2)
  have HK22 := Hid.mk (HK21.out.kept hb2)
  have HY12 := Hid.mk (isBytes_below HY11.out hb2)
  have HY22 := Hid.mk (isBytes_below HY21.out hb2)
  clear hb2 HB1 HK11 HK21 HY11 HY21 HA2 k0 k1 k2 k3 k4 k5
  go_wp2_with fail
  refine (HA3.out _ (HS.out.kept HB2.out) (HR.out.kept HB2.out)).mono ?_
  rintro e w3 ⟨rfl, hb3⟩
  have HB3 := Hid.mk (bl2 HB2.out hb3)
  have HK13 := Hid.mk (HK12.out.kept hb3)
  have HK23 := Hid.mk (HK22.out.kept hb3)
  have HY13 := Hid.mk (isBytes_below HY12.out hb3)
  have HY23 := Hid.mk (isBytes_below HY22.out hb3)
  clear hb3 HB2 HK12 HK22 HY12 HY22
  obtain ⟨j0, j1, j2, j3, j4, j5⟩ := HK13.out
  obtain ⟨m0, m1, m2, m3, m4, m5⟩ := HK23.out
  go_wp2_with fail
  go_ret
  exact ⟨rfl, HB3.out⟩
set_option maxHeartbeats 8000000 in
theorem names_re_true (id1 id2 : Int) (lo fa1 fa2 re1 re2 : Bool) (sz1 sz2 : Int) (dt1 dt2 : List UInt8) (a : Option Addr) (len cap : Nat) (a2 : Option Addr) (len2 cap2 : Nat) (w : World) (hS : SizesAt w) (hR : RulesAt w) (hby : IsBytes w a len cap dt1) (hby2 : IsBytes w a2 len2 cap2 dt2) (hE : frE (⟨id1, lo, fa1, re1, sz1, dt1⟩ : Fr) = 0) (hE2 : frE (⟨id2, lo, fa2, re2, sz2, dt2⟩ : Fr) = 0) (hid : id1 = id2) (hre : re1 ≠ re2) (hq : ∀ s1 s2 : ByteArray, s1.data.toList = nameL (⟨id1, lo, fa1, re1, sz1, dt1⟩ : Fr) → s2.data.toList = nameL (⟨id2, lo, fa2, re2, sz2, dt2⟩ : Fr) → (!(Op.bytesLess s1.toList s2.toList || s1.toList == s2.toList)) = true) :
    Calls Tryd.prog 4 #[frameV id1 lo fa1 re1 sz1 a len cap, frameV id2 lo fa2 re2 sz2 a2 len2 cap2] w fun e w' => e = .returned (.bool true) ∧ Below w.heap.size w w' := by
  have hB1 := below_box w id1 lo fa1 re1 sz1 a len cap
  have hB2 := below_box (w.alloc (frameC id1 lo fa1 re1 sz1 a len cap)) id2 lo fa2 re2 sz2 a2 len2 cap2
  have hB := bl2 hB1 hB2
  have hK1 := (FrAt.box w id1 lo fa1 re1 sz1 a len cap).kept hB2
  have hK2 := FrAt.box (w.alloc (frameC id1 lo fa1 re1 sz1 a len cap)) id2 lo fa2 re2 sz2 a2 len2 cap2
  have hsz : (w.alloc (frameC id1 lo fa1 re1 sz1 a len cap)).heap.size = w.heap.size + 1 := by simp
  rw [hsz] at hK2
  have hY1 := isBytes_below hby hB
  have hY2 := isBytes_below hby2 hB
  have a1 := frName_any ⟨id1, lo, fa1, re1, sz1, dt1⟩ a len cap _ (hS.kept hB) (by have := hby.2.1; have := hby.2.2.1; omega) hby.1
  have aa2 := fun W h1 => frName_any ⟨id2, lo, fa2, re2, sz2, dt2⟩ a2 len2 cap2 W h1 (by have := hby2.2.1; have := hby2.2.2.1; omega) hby2.1
  have a3 := fun W h1 h2 => framed_any W h1 h2
  obtain ⟨s1, hs1, hl1, hz1⟩ := name_shape ⟨id1, lo, fa1, re1, sz1, dt1⟩
  obtain ⟨s2, hs2, hl2, hz2⟩ := name_shape ⟨id2, lo, fa2, re2, sz2, dt2⟩
  rw [hs1] at a1
  rw [hs2] at aa2
  rw [hE] at a1
  rw [hE2] at aa2
  have e1 := hl1 hE
  have e2 := hl2 hE2
  simp only at a1 aa2
  have c1 := ba_listEqN e1 e2
  rw [names_same (⟨id1, lo, fa1, re1, sz1, dt1⟩ : Fr) (⟨id2, lo, fa2, re2, sz2, dt2⟩ : Fr) hE hE2 rfl] at c1
  simp only at c1
  have lt := fun h => names_less (⟨id1, lo, fa1, re1, sz1, dt1⟩ : Fr) (⟨id2, lo, fa2, re2, sz2, dt2⟩ : Fr) hE hE2 rfl h
  simp only at lt
  have hg := gtr_run s1 s2
  have k1 : (s1.toList == s2.toList) = false := by rw [c1]; simp [hre]
  have gt := hg true (hq s1 s2 e1 e2)
  have k2 : (re1 == re2) = false := by simpa using hre
  subst hid
  clear hq hre
  have HA1 := Hid.mk a1
  have HA2 := Hid.mk aa2
  have HA3 := Hid.mk a3
  have HB := Hid.mk hB
  have HK1 := Hid.mk hK1
  have HK2 := Hid.mk hK2
  have HY1 := Hid.mk hY1
  have HY2 := Hid.mk hY2
  have HS := Hid.mk hS
  have HR := Hid.mk hR
  unfold frameC at HA1 HB HK1 HK2 HY1 HY2
  unfold frameV at HA1 HA2 ⊢
  clear a1 aa2 a3 hB1 hB2 hB hK1 hK2 hY1 hY2 hS hR hby hby2 hsz hs1 hs2 hl1 hl2
  clear e1 e2 hE hE2 lt hg c1
  go_enter Tryd.func4, Tryd.ntmps4
  go_wp2_with fail
  refine HA1.out.mono ?_
  rintro e w1 ⟨rfl, hb1⟩
  have HB1 := Hid.mk (bl2 HB.out hb1)
  have HK11 := Hid.mk (HK1.out.kept hb1)
  have HK21 := Hid.mk (HK2.out.kept hb1)
  have HY11 := Hid.mk (isBytes_below HY1.out hb1)
  have HY21 := Hid.mk (isBytes_below HY2.out hb1)
  obtain ⟨k0, k1, k2, k3, k4, k5⟩ := HK21.out
  clear hb1 HB HK1 HK2 HY1 HY2 HA1
  go_wp2_with fail
  refine (HA2.out _ (HS.out.kept HB1.out)).mono ?_
  rintro e w2 ⟨rfl, hb2⟩
  have HB2 := Hid.mk (bl2 HB1.out hb2)
  have HK12 := Hid.mk (HK11.out.kept hb2)
  have HK22 := Hid.mk (HK21.out.kept hb2)
  have HY12 := Hid.mk (isBytes_below HY11.out hb2)
  have HY22 := Hid.mk (isBytes_below HY21.out hb2)
  clear hb2 HB1 HK11 HK21 HY11 HY21 HA2 k0 k1 k2 k3 k4 k5
  go_wp2_with fail
  refine (HA3.out _ (HS.out.kept HB2.out) (HR.out.kept HB2.out)).mono ?_
  rintro e w3 ⟨rfl, hb3⟩
  have HB3 := Hid.mk (bl2 HB2.out hb3)
  have HK13 := Hid.mk (HK12.out.kept hb3)
  have HK23 := Hid.mk (HK22.out.kept hb3)
  have HY13 := Hid.mk (isBytes_below HY12.out hb3)
  have HY23 := Hid.mk (isBytes_below HY22.out hb3)
  clear hb3 HB2 HK12 HK22 HY12 HY22
  obtain ⟨j0, j1, j2, j3, j4, j5⟩ := HK13.out
  obtain ⟨m0, m1, m2, m3, m4, m5⟩ := HK23.out
  go_wp2_with fail
  go_ret
  exact ⟨rfl, HB3.out⟩
set_option maxHeartbeats 8000000 in
theorem names_lt_true (id1 id2 : Int) (lo fa1 fa2 re1 re2 : Bool) (sz1 sz2 : Int) (dt1 dt2 : List UInt8) (a : Option Addr) (len cap : Nat) (a2 : Option Addr) (len2 cap2 : Nat) (w : World) (hS : SizesAt w) (hR : RulesAt w) (hby : IsBytes w a len cap dt1) (hby2 : IsBytes w a2 len2 cap2 dt2) (hE : frE (⟨id1, lo, fa1, re1, sz1, dt1⟩ : Fr) = 0) (hE2 : frE (⟨id2, lo, fa2, re2, sz2, dt2⟩ : Fr) = 0) (hid : id1 < id2) (hq : ∀ s1 s2 : ByteArray, s1.data.toList = nameL (⟨id1, lo, fa1, re1, sz1, dt1⟩ : Fr) → s2.data.toList = nameL (⟨id2, lo, fa2, re2, sz2, dt2⟩ : Fr) → (!(Op.bytesLess s1.toList s2.toList || s1.toList == s2.toList)) = true) :
    Calls Tryd.prog 4 #[frameV id1 lo fa1 re1 sz1 a len cap, frameV id2 lo fa2 re2 sz2 a2 len2 cap2] w fun e w' => e = .returned (.bool true) ∧ Below w.heap.size w w' := by
  have hB1 := below_box w id1 lo fa1 re1 sz1 a len cap
  have hB2 := below_box (w.alloc (frameC id1 lo fa1 re1 sz1 a len cap)) id2 lo fa2 re2 sz2 a2 len2 cap2
  have hB := bl2 hB1 hB2
  have hK1 := (FrAt.box w id1 lo fa1 re1 sz1 a len cap).kept hB2
  have hK2 := FrAt.box (w.alloc (frameC id1 lo fa1 re1 sz1 a len cap)) id2 lo fa2 re2 sz2 a2 len2 cap2
  have hsz : (w.alloc (frameC id1 lo fa1 re1 sz1 a len cap)).heap.size = w.heap.size + 1 := by simp
  rw [hsz] at hK2
  have hY1 := isBytes_below hby hB
  have hY2 := isBytes_below hby2 hB
  have a1 := frName_any ⟨id1, lo, fa1, re1, sz1, dt1⟩ a len cap _ (hS.kept hB) (by have := hby.2.1; have := hby.2.2.1; omega) hby.1
  have aa2 := fun W h1 => frName_any ⟨id2, lo, fa2, re2, sz2, dt2⟩ a2 len2 cap2 W h1 (by have := hby2.2.1; have := hby2.2.2.1; omega) hby2.1
  have a3 := fun W h1 h2 => framed_any W h1 h2
  obtain ⟨s1, hs1, hl1, hz1⟩ := name_shape ⟨id1, lo, fa1, re1, sz1, dt1⟩
  obtain ⟨s2, hs2, hl2, hz2⟩ := name_shape ⟨id2, lo, fa2, re2, sz2, dt2⟩
  rw [hs1] at a1
  rw [hs2] at aa2
  rw [hE] at a1
  rw [hE2] at aa2
  have e1 := hl1 hE
  have e2 := hl2 hE2
  simp only at a1 aa2
  have c1 := ba_listEqN e1 e2
  rw [names_same (⟨id1, lo, fa1, re1, sz1, dt1⟩ : Fr) (⟨id2, lo, fa2, re2, sz2, dt2⟩ : Fr) hE hE2 rfl] at c1
  simp only at c1
  have lt := fun h => names_less (⟨id1, lo, fa1, re1, sz1, dt1⟩ : Fr) (⟨id2, lo, fa2, re2, sz2, dt2⟩ : Fr) hE hE2 rfl h
  simp only at lt
  have hg := gtr_run s1 s2
  have hne : id1 ≠ id2 := by omega
  have k1 : (s1.toList == s2.toList) = false := by rw [c1]; simp [hne]
  have gt := hg true (hq s1 s2 e1 e2)
  have k2 : (id1 == id2) = false := by simpa using hne
  have k3 : decide (id1 ≤ id2) = true := by simp; omega
  clear hq hne
  have HA1 := Hid.mk a1
  have HA2 := Hid.mk aa2
  have HA3 := Hid.mk a3
  have HB := Hid.mk hB
  have HK1 := Hid.mk hK1
  have HK2 := Hid.mk hK2
  have HY1 := Hid.mk hY1
  have HY2 := Hid.mk hY2
  have HS := Hid.mk hS
  have HR := Hid.mk hR
  unfold frameC at HA1 HB HK1 HK2 HY1 HY2
  unfold frameV at HA1 HA2 ⊢
  clear a1 aa2 a3 hB1 hB2 hB hK1 hK2 hY1 hY2 hS hR hby hby2 hsz hs1 hs2 hl1 hl2
  clear e1 e2 hE hE2 lt hg c1
  go_enter Tryd.func4, Tryd.ntmps4
  go_wp2_with fail
  refine HA1.out.mono ?_
  rintro e w1 ⟨rfl, hb1⟩
  have HB1 := Hid.mk (bl2 HB.out hb1)
  have HK11 := Hid.mk (HK1.out.kept hb1)
  have HK21 := Hid.mk (HK2.out.kept hb1)
  have HY11 := Hid.mk (isBytes_below HY1.out hb1)
  have HY21 := Hid.mk (isBytes_below HY2.out hb1)
  obtain ⟨k0, k1, k2, k3, k4, k5⟩ := HK21.out
  clear hb1 HB HK1 HK2 HY1 HY2 HA1
  go_wp2_with fail
  refine (HA2.out _ (HS.out.kept HB1.out)).mono ?_
  rintro e w2 ⟨rfl, hb2⟩
  have HB2 := Hid.mk (bl2 HB1.out hb2)
  have HK12 := Hid.mk (HK11.out.kept hb2)
  have HK22 := Hid.mk (HK21.out.kept hb2)
  have HY12 := Hid.mk (isBytes_below HY11.out hb2)
  have HY22 := Hid.mk (isBytes_below HY21.out hb2)
  clear hb2 HB1 HK11 HK21 HY11 HY21 HA2 k0 k1 k2 k3 k4 k5
  go_wp2_with fail
  refine (HA3.out _ (HS.out.kept HB2.out) (HR.out.kept HB2.out)).mono ?_
  rintro e w3 ⟨rfl, hb3⟩
  have HB3 := Hid.mk (bl2 HB2.out hb3)
  have HK13 := Hid.mk (HK12.out.kept hb3)
  have HK23 := Hid.mk (HK22.out.kept hb3)
  have HY13 := Hid.mk (isBytes_below HY12.out hb3)
  have HY23 := Hid.mk (isBytes_below HY22.out hb3)
  clear hb3 HB2 HK12 HK22 HY12 HY22
  obtain ⟨j0, j1, j2, j3, j4, j5⟩ := HK13.out
  obtain ⟨m0, m1, m2, m3, m4, m5⟩ := HK23.out
  go_wp2_with fail
  go_ret
  exact ⟨rfl, HB3.out⟩
set_option maxHeartbeats 8000000 in
theorem names_re_false (id1 id2 : Int) (lo fa1 fa2 re1 re2 : Bool) (sz1 sz2 : Int) (dt1 dt2 : List UInt8) (a : Option Addr) (len cap : Nat) (a2 : Option Addr) (len2 cap2 : Nat) (w : World) (hS : SizesAt w) (hR : RulesAt w) (hby : IsBytes w a len cap dt1) (hby2 : IsBytes w a2 len2 cap2 dt2) (hE : frE (⟨id1, lo, fa1, re1, sz1, dt1⟩ : Fr) = 0) (hE2 : frE (⟨id2, lo, fa2, re2, sz2, dt2⟩ : Fr) = 0) (hid : id1 = id2) (hre : re1 ≠ re2) (hq : ∀ s1 s2 : ByteArray, s1.data.toList = nameL (⟨id1, lo, fa1, re1, sz1, dt1⟩ : Fr) → s2.data.toList = nameL (⟨id2, lo, fa2, re2, sz2, dt2⟩ : Fr) → (!(Op.bytesLess s1.toList s2.toList || s1.toList == s2.toList)) = false) :
    Calls Tryd.prog 4 #[frameV id1 lo fa1 re1 sz1 a len cap, frameV id2 lo fa2 re2 sz2 a2 len2 cap2] w fun e w' => e = .returned (.bool true) ∧ Below w.heap.size w w' := by
  have hB1 := below_box w id1 lo fa1 re1 sz1 a len cap
  have hB2 := below_box (w.alloc (frameC id1 lo fa1 re1 sz1 a len cap)) id2 lo fa2 re2 sz2 a2 len2 cap2
  have hB := bl2 hB1 hB2
  have hK1 := (FrAt.box w id1 lo fa1 re1 sz1 a len cap).kept hB2
  have hK2 := FrAt.box (w.alloc (frameC id1 lo fa1 re1 sz1 a len cap)) id2 lo fa2 re2 sz2 a2 len2 cap2
  have hsz : (w.alloc (frameC id1 lo fa1 re1 sz1 a len cap)).heap.size = w.heap.size + 1 := by simp
  rw [hsz] at hK2
  have hY1 := isBytes_below hby hB
  have hY2 := isBytes_below hby2 hB
  have a1 := frName_any ⟨id1, lo, fa1, re1, sz1, dt1⟩ a len cap _ (hS.kept hB) (by have := hby.2.1; have := hby.2.2.1; omega) hby.1
  have aa2 := fun W h1 => frName_any ⟨id2, lo, fa2, re2, sz2, dt2⟩ a2 len2 cap2 W h1 (by have := hby2.2.1; have := hby2.2.2.1; omega) hby2.1
  have a3 := fun W h1 h2 => framed_any W h1 h2
  obtain ⟨s1, hs1, hl1, hz1⟩ := name_shape ⟨id1, lo, fa1, re1, sz1, dt1⟩
  obtain ⟨s2, hs2, hl2, hz2⟩ := name_shape ⟨id2, lo, fa2, re2, sz2, dt2⟩
  rw [hs1] at a1
  rw [hs2] at aa2
  rw [hE] at a1
  rw [hE2] at aa2
  have e1 := hl1 hE
  have e2 := hl2 hE2
  simp only at a1 aa2
  have c1 := ba_listEqN e1 e2
  rw [names_same (⟨id1, lo, fa1, re1, sz1, dt1⟩ : Fr) (⟨id2, lo, fa2, re2, sz2, dt2⟩ : Fr) hE hE2 rfl] at c1
  simp only at c1
  have lt := fun h => names_less (⟨id1, lo, fa1, re1, sz1, dt1⟩ : Fr) (⟨id2, lo, fa2, re2, sz2, dt2⟩ : Fr) hE hE2 rfl h
  simp only at lt
  have hg := gtr_run s1 s2
  have k1 : (s1.toList == s2.toList) = false := by rw [c1]; simp [hre]
  have gt := hg false (hq s1 s2 e1 e2)
  have k2 : (re1 == re2) = false := by simpa using hre
  subst hid
  clear hq hre
  have HA1 := Hid.mk a1
  have HA2 := Hid.mk aa2
  have HA3 := Hid.mk a3
  have HB := Hid.mk hB
  have HK1 := Hid.mk hK1
  have HK2 := Hid.mk hK2
  have HY1 := Hid.mk hY1
  have HY2 := Hid.mk hY2
  have HS := Hid.mk hS
  have HR := Hid.mk hR
  unfold frameC at HA1 HB HK1 HK2 HY1 HY2
  unfold frameV at HA1 HA2 ⊢
  clear a1 aa2 a3 hB1 hB2 hB hK1 hK2 hY1 hY2 hS hR hby hby2 hsz hs1 hs2 hl1 hl2
  clear e1 e2 hE hE2 lt hg c1
  go_enter Tryd.func4, Tryd.ntmps4
  go_wp2_with fail
  refine HA1.out.mono ?_
  rintro e w1 ⟨rfl, hb1⟩
  have HB1 := Hid.mk (bl2 HB.out hb1)
  have HK11 := Hid.mk (HK1.out.kept hb1)
  have HK21 := Hid.mk (HK2.out.kept hb1)
  have HY11 := Hid.mk (isBytes_below HY1.out hb1)
  have HY21 := Hid.mk (isBytes_below HY2.out hb1)
  obtain ⟨k0, k1, k2, k3, k4, k5⟩ := HK21.out
  clear hb1 HB HK1 HK2 HY1 HY2 HA1
  go_wp2_with fail
  refine (HA2.out _ (HS.out.kept HB1.out)).mono ?_
  rintro e w2 ⟨rfl, hb2⟩
  have HB2 := Hid.mk (bl2 HB1.out hb2)
  have HK12 := Hid.mk (HK11.out.kept hb2)
  have HK22 := Hid.mk (HK21.out.kept hb2)
  have HY12 := Hid.mk (isBytes_below HY11.out hb2)
  have HY22 := Hid.mk (isBytes_below HY21.out hb2)
  clear hb2 HB1 HK11 HK21 HY11 HY21 HA2 k0 k1 k2 k3 k4 k5
  go_wp2_with fail
  refine (HA3.out _ (HS.out.kept HB2.out) (HR.out.kept HB2.out)).mono ?_
  rintro e w3 ⟨rfl, hb3⟩
  have HB3 := Hid.mk (bl2 HB2.out hb3)
  have HK13 := Hid.mk (HK12.out.kept hb3)
  have HK23 := Hid.mk (HK22.out.kept hb3)
  have HY13 := Hid.mk (isBytes_below HY12.out hb3)
  have HY23 := Hid.mk (isBytes_below HY22.out hb3)
  clear hb3 HB2 HK12 HK22 HY12 HY22
  obtain ⟨j0, j1, j2, j3, j4, j5⟩ := HK13.out
  obtain ⟨m0, m1, m2, m3, m4, m5⟩ := HK23.out
  go_wp2_with fail
  go_ret
  exact ⟨rfl, HB3.out⟩
set_option maxHeartbeats 8000000 in
theorem names_lt_false (id1 id2 : Int) (lo fa1 fa2 re1 re2 : Bool) (sz1 sz2 : Int) (dt1 dt2 : List UInt8) (a : Option Addr) (len cap : Nat) (a2 : Option Addr) (len2 cap2 : Nat) (w : World) (hS : SizesAt w) (hR : RulesAt w) (hby : IsBytes w a len cap dt1) (hby2 : IsBytes w a2 len2 cap2 dt2) (hE : frE (⟨id1, lo, fa1, re1, sz1, dt1⟩ : Fr) = 0) (hE2 : frE (⟨id2, lo, fa2, re2, sz2, dt2⟩ : Fr) = 0) (hid : id1 < id2) (hq : ∀ s1 s2 : ByteArray, s1.data.toList = nameL (⟨id1, lo, fa1, re1, sz1, dt1⟩ : Fr) → s2.data.toList = nameL (⟨id2, lo, fa2, re2, sz2, dt2⟩ : Fr) → (!(Op.bytesLess s1.toList s2.toList || s1.toList == s2.toList)) = false) :
    Calls Tryd.prog 4 #[frameV id1 lo fa1 re1 sz1 a len cap, frameV id2 lo fa2 re2 sz2 a2 len2 cap2] w fun e w' => e = .returned (.bool true) ∧ Below w.heap.size w w' := by
  have hB1 := below_box w id1 lo fa1 re1 sz1 a len cap
  have hB2 := below_box (w.alloc (frameC id1 lo fa1 re1 sz1 a len cap)) id2 lo fa2 re2 sz2 a2 len2 cap2
  have hB := bl2 hB1 hB2
  have hK1 := (FrAt.box w id1 lo fa1 re1 sz1 a len cap).kept hB2
  have hK2 := FrAt.box (w.alloc (frameC id1 lo fa1 re1 sz1 a len cap)) id2 lo fa2 re2 sz2 a2 len2 cap2
  have hsz : (w.alloc (frameC id1 lo fa1 re1 sz1 a len cap)).heap.size = w.heap.size + 1 := by simp
  rw [hsz] at hK2
  have hY1 := isBytes_below hby hB
  have hY2 := isBytes_below hby2 hB
  have a1 := frName_any ⟨id1, lo, fa1, re1, sz1, dt1⟩ a len cap _ (hS.kept hB) (by have := hby.2.1; have := hby.2.2.1; omega) hby.1
  have aa2 := fun W h1 => frName_any ⟨id2, lo, fa2, re2, sz2, dt2⟩ a2 len2 cap2 W h1 (by have := hby2.2.1; have := hby2.2.2.1; omega) hby2.1
  have a3 := fun W h1 h2 => framed_any W h1 h2
  obtain ⟨s1, hs1, hl1, hz1⟩ := name_shape ⟨id1, lo, fa1, re1, sz1, dt1⟩
  obtain ⟨s2, hs2, hl2, hz2⟩ := name_shape ⟨id2, lo, fa2, re2, sz2, dt2⟩
  rw [hs1] at a1
  rw [hs2] at aa2
  rw [hE] at a1
  rw [hE2] at aa2
  have e1 := hl1 hE
  have e2 := hl2 hE2
  simp only at a1 aa2
  have c1 := ba_listEqN e1 e2
  rw [names_same (⟨id1, lo, fa1, re1, sz1, dt1⟩ : Fr) (⟨id2, lo, fa2, re2, sz2, dt2⟩ : Fr) hE hE2 rfl] at c1
  simp only at c1
  have lt := fun h => names_less (⟨id1, lo, fa1, re1, sz1, dt1⟩ : Fr) (⟨id2, lo, fa2, re2, sz2, dt2⟩ : Fr) hE hE2 rfl h
  simp only at lt
  have hg := gtr_run s1 s2
  have hne : id1 ≠ id2 := by omega
  have k1 : (s1.toList == s2.toList) = false := by rw [c1]; simp [hne]
  have gt := hg false (hq s1 s2 e1 e2)
  have k2 : (id1 == id2) = false := by simpa using hne
  have k3 : decide (id1 ≤ id2) = true := by simp; omega
  clear hq hne
  have HA1 := Hid.mk a1
  have HA2 := Hid.mk aa2
  have HA3 := Hid.mk a3
  have HB := Hid.mk hB
  have HK1 := Hid.mk hK1
  have HK2 := Hid.mk hK2
  have HY1 := Hid.mk hY1
  have HY2 := Hid.mk hY2
  have HS := Hid.mk hS
  have HR := Hid.mk hR
  unfold frameC at HA1 HB HK1 HK2 HY1 HY2
  unfold frameV at HA1 HA2 ⊢
  clear a1 aa2 a3 hB1 hB2 hB hK1 hK2 hY1 hY2 hS hR hby hby2 hsz hs1 hs2 hl1 hl2
  clear e1 e2 hE hE2 lt hg c1
  go_enter Tryd.func4, Tryd.ntmps4
  go_wp2_with fail
  refine HA1.out.mono ?_
  rintro e w1 ⟨rfl, hb1⟩
  have HB1 := Hid.mk (bl2 HB.out hb1)
  have HK11 := Hid.mk (HK1.out.kept hb1)
  have HK21 := Hid.mk (HK2.out.kept hb1)
  have HY11 := Hid.mk (isBytes_below HY1.out hb1)
  have HY21 := Hid.mk (isBytes_below HY2.out hb1)
  obtain ⟨k0, k1, k2, k3, k4, k5⟩ := HK21.out
  clear hb1 HB HK1 HK2 HY1 HY2 HA1
  go_wp2_with fail
  refine (HA2.out _ (HS.out.kept HB1.out)).mono ?_
  rintro e w2 ⟨rfl, hb2⟩
  have HB2 := Hid.mk (bl2 HB1.out hb2)
  have HK12 := Hid.mk (HK11.out.kept hb2)
  have HK22 := Hid.mk (HK21.out.kept hb2)
  have HY12 := Hid.mk (isBytes_below HY11.out hb2)
  have HY22 := Hid.mk (isBytes_below HY21.out hb2)
  clear hb2 HB1 HK11 HK21 HY11 HY21 HA2 k0 k1 k2 k3 k4 k5
  go_wp2_with fail
  refine (HA3.out _ (HS.out.kept HB2.out) (HR.out.kept HB2.out)).mono ?_
  rintro e w3 ⟨rfl, hb3⟩
  have HB3 := Hid.mk (bl2 HB2.out hb3)
  have HK13 := Hid.mk (HK12.out.kept hb3)
  have HK23 := Hid.mk (HK22.out.kept hb3)
  have HY13 := Hid.mk (isBytes_below HY12.out hb3)
  have HY23 := Hid.mk (isBytes_below HY22.out hb3)
  clear hb3 HB2 HK12 HK22 HY12 HY22
  obtain ⟨j0, j1, j2, j3, j4, j5⟩ := HK13.out
  obtain ⟨m0, m1, m2, m3, m4, m5⟩ := HK23.out
  go_wp2_with fail
  go_ret
  exact ⟨rfl, HB3.out⟩
set_option maxHeartbeats 8000000 in
theorem names_gt (id1 id2 : Int) (lo fa1 fa2 re1 re2 : Bool) (sz1 sz2 : Int) (dt1 dt2 : List UInt8) (a : Option Addr) (len cap : Nat) (a2 : Option Addr) (len2 cap2 : Nat) (w : World) (hS : SizesAt w) (hR : RulesAt w) (hby : IsBytes w a len cap dt1) (hby2 : IsBytes w a2 len2 cap2 dt2) (hE : frE (⟨id1, lo, fa1, re1, sz1, dt1⟩ : Fr) = 0) (hE2 : frE (⟨id2, lo, fa2, re2, sz2, dt2⟩ : Fr) = 0) (hid : id2 < id1) :
    Calls Tryd.prog 4 #[frameV id1 lo fa1 re1 sz1 a len cap, frameV id2 lo fa2 re2 sz2 a2 len2 cap2] w fun e w' => e = .returned (.bool true) ∧ Below w.heap.size w w' := by
  have hB1 := below_box w id1 lo fa1 re1 sz1 a len cap
  have hB2 := below_box (w.alloc (frameC id1 lo fa1 re1 sz1 a len cap)) id2 lo fa2 re2 sz2 a2 len2 cap2
  have hB := bl2 hB1 hB2
  have hK1 := (FrAt.box w id1 lo fa1 re1 sz1 a len cap).kept hB2
  have hK2 := FrAt.box (w.alloc (frameC id1 lo fa1 re1 sz1 a len cap)) id2 lo fa2 re2 sz2 a2 len2 cap2
  have hsz : (w.alloc (frameC id1 lo fa1 re1 sz1 a len cap)).heap.size = w.heap.size + 1 := by simp
  rw [hsz] at hK2
  have hY1 := isBytes_below hby hB
  have hY2 := isBytes_below hby2 hB
  have a1 := frName_any ⟨id1, lo, fa1, re1, sz1, dt1⟩ a len cap _ (hS.kept hB) (by have := hby.2.1; have := hby.2.2.1; omega) hby.1
  have aa2 := fun W h1 => frName_any ⟨id2, lo, fa2, re2, sz2, dt2⟩ a2 len2 cap2 W h1 (by have := hby2.2.1; have := hby2.2.2.1; omega) hby2.1
  have a3 := fun W h1 h2 => framed_any W h1 h2
  obtain ⟨s1, hs1, hl1, hz1⟩ := name_shape ⟨id1, lo, fa1, re1, sz1, dt1⟩
  obtain ⟨s2, hs2, hl2, hz2⟩ := name_shape ⟨id2, lo, fa2, re2, sz2, dt2⟩
  rw [hs1] at a1
  rw [hs2] at aa2
  rw [hE] at a1
  rw [hE2] at aa2
  have e1 := hl1 hE
  have e2 := hl2 hE2
  simp only at a1 aa2
  have c1 := ba_listEqN e1 e2
  rw [names_same (⟨id1, lo, fa1, re1, sz1, dt1⟩ : Fr) (⟨id2, lo, fa2, re2, sz2, dt2⟩ : Fr) hE hE2 rfl] at c1
  simp only at c1
  have lt := fun h => names_less (⟨id1, lo, fa1, re1, sz1, dt1⟩ : Fr) (⟨id2, lo, fa2, re2, sz2, dt2⟩ : Fr) hE hE2 rfl h
  simp only at lt
  have hg := gtr_run s1 s2
  have hne : id1 ≠ id2 := by omega
  have k1 : (s1.toList == s2.toList) = false := by rw [c1]; simp [hne]
  have gt := hg true (by rw [k1, ByteArray.toList_eq, ByteArray.toList_eq, e1, e2, (lt hid).1]; rfl)
  have k2 : (id1 == id2) = false := by simpa using hne
  clear hne
  have HA1 := Hid.mk a1
  have HA2 := Hid.mk aa2
  have HA3 := Hid.mk a3
  have HB := Hid.mk hB
  have HK1 := Hid.mk hK1
  have HK2 := Hid.mk hK2
  have HY1 := Hid.mk hY1
  have HY2 := Hid.mk hY2
  have HS := Hid.mk hS
  have HR := Hid.mk hR
  unfold frameC at HA1 HB HK1 HK2 HY1 HY2
  unfold frameV at HA1 HA2 ⊢
  clear a1 aa2 a3 hB1 hB2 hB hK1 hK2 hY1 hY2 hS hR hby hby2 hsz hs1 hs2 hl1 hl2
  clear e1 e2 hE hE2 lt hg c1
  go_enter Tryd.func4, Tryd.ntmps4
  go_wp2_with fail
  refine HA1.out.mono ?_
  rintro e w1 ⟨rfl, hb1⟩
  have HB1 := Hid.mk (bl2 HB.out hb1)
  have HK11 := Hid.mk (HK1.out.kept hb1)
  have HK21 := Hid.mk (HK2.out.kept hb1)
  have HY11 := Hid.mk (isBytes_below HY1.out hb1)
  have HY21 := Hid.mk (isBytes_below HY2.out hb1)
  obtain ⟨k0, k1, k2, k3, k4, k5⟩ := HK21.out
  clear hb1 HB HK1 HK2 HY1 HY2 HA1
  go_wp2_with fail
  refine (HA2.out _ (HS.out.kept HB1.out)).mono ?_
  rintro e w2 ⟨rfl, hb2⟩
  have HB2 := Hid.mk (bl2 HB1.out hb2)
  have HK12 := Hid.mk (HK11.out.kept hb2)
  have HK22 := Hid.mk (HK21.out.kept hb2)
  have HY12 := Hid.mk (isBytes_below HY11.out hb2)
  have HY22 := Hid.mk (isBytes_below HY21.out hb2)
  clear hb2 HB1 HK11 HK21 HY11 HY21 HA2 k0 k1 k2 k3 k4 k5
  go_wp2_with fail
  refine (HA3.out _ (HS.out.kept HB2.out) (HR.out.kept HB2.out)).mono ?_
  rintro e w3 ⟨rfl, hb3⟩
  have HB3 := Hid.mk (bl2 HB2.out hb3)
  have HK13 := Hid.mk (HK12.out.kept hb3)
  have HK23 := Hid.mk (HK22.out.kept hb3)
  have HY13 := Hid.mk (isBytes_below HY12.out hb3)
  have HY23 := Hid.mk (isBytes_below HY22.out hb3)
  clear hb3 HB2 HK12 HK22 HY12 HY22
  obtain ⟨j0, j1, j2, j3, j4, j5⟩ := HK13.out
  obtain ⟨m0, m1, m2, m3, m4, m5⟩ := HK23.out
  go_wp2_with fail
  go_ret
  exact ⟨rfl, HB3.out⟩
set_option maxHeartbeats 8000000 in
theorem names_oth (id1 id2 : Int) (lo1 lo2 fa1 fa2 re1 re2 : Bool) (sz1 sz2 : Int) (dt1 dt2 : List UInt8) (a : Option Addr) (len cap : Nat) (a2 : Option Addr) (len2 cap2 : Nat) (w : World) (hS : SizesAt w) (hR : RulesAt w) (hby : IsBytes w a len cap dt1) (hby2 : IsBytes w a2 len2 cap2 dt2) (hE : frE (⟨id1, lo1, fa1, re1, sz1, dt1⟩ : Fr) = 0) (hE2 : frE (⟨id2, lo2, fa2, re2, sz2, dt2⟩ : Fr) = 0) (hlo : lo1 ≠ lo2) :
    Calls Tryd.prog 4 #[frameV id1 lo1 fa1 re1 sz1 a len cap, frameV id2 lo2 fa2 re2 sz2 a2 len2 cap2] w fun e w' => e = .returned (.bool true) ∧ Below w.heap.size w w' := by
  have hB1 := below_box w id1 lo1 fa1 re1 sz1 a len cap
  have hB2 := below_box (w.alloc (frameC id1 lo1 fa1 re1 sz1 a len cap)) id2 lo2 fa2 re2 sz2 a2 len2 cap2
  have hB := bl2 hB1 hB2
  have hK1 := (FrAt.box w id1 lo1 fa1 re1 sz1 a len cap).kept hB2
  have hK2 := FrAt.box (w.alloc (frameC id1 lo1 fa1 re1 sz1 a len cap)) id2 lo2 fa2 re2 sz2 a2 len2 cap2
  have hsz : (w.alloc (frameC id1 lo1 fa1 re1 sz1 a len cap)).heap.size = w.heap.size + 1 := by simp
  rw [hsz] at hK2
  have hY1 := isBytes_below hby hB
  have hY2 := isBytes_below hby2 hB
  have a1 := frName_any ⟨id1, lo1, fa1, re1, sz1, dt1⟩ a len cap _ (hS.kept hB) (by have := hby.2.1; have := hby.2.2.1; omega) hby.1
  have aa2 := fun W h1 => frName_any ⟨id2, lo2, fa2, re2, sz2, dt2⟩ a2 len2 cap2 W h1 (by have := hby2.2.1; have := hby2.2.2.1; omega) hby2.1
  have a3 := fun W h1 h2 => framed_any W h1 h2
  obtain ⟨s1, hs1, hl1, hz1⟩ := name_shape ⟨id1, lo1, fa1, re1, sz1, dt1⟩
  obtain ⟨s2, hs2, hl2, hz2⟩ := name_shape ⟨id2, lo2, fa2, re2, sz2, dt2⟩
  rw [hs1] at a1
  rw [hs2] at aa2
  rw [hE] at a1
  rw [hE2] at aa2
  have e1 := hl1 hE
  have e2 := hl2 hE2
  simp only at a1 aa2
  obtain ⟨n1, n2⟩ := names_other (⟨id1, lo1, fa1, re1, sz1, dt1⟩ : Fr) (⟨id2, lo2, fa2, re2, sz2, dt2⟩ : Fr) hlo
  obtain ⟨n3, n4⟩ := names_other (⟨id2, lo2, fa2, re2, sz2, dt2⟩ : Fr) (⟨id1, lo1, fa1, re1, sz1, dt1⟩ : Fr) (fun h => hlo h.symm)
  have c1 := ba_listEqN e1 e2
  have k1 : (s1.toList == s2.toList) = false := by rw [c1]; simpa using n1
  have p1 := fun W => Tryd.strings_HasPrefix s1 s2 W
  have p2 := fun W => Tryd.strings_HasPrefix s2 s1 W
  rw [e1, e2, n2] at p1
  rw [e1, e2, n4] at p2
  have k2 : (lo1 == lo2) = false := by simpa using hlo
  have HP1 := Hid.mk p1
  have HP2 := Hid.mk p2
  clear n1 n2 n3 n4 c1 p1 p2
  have HA1 := Hid.mk a1
  have HA2 := Hid.mk aa2
  have HA3 := Hid.mk a3
  have HB := Hid.mk hB
  have HK1 := Hid.mk hK1
  have HK2 := Hid.mk hK2
  have HY1 := Hid.mk hY1
  have HY2 := Hid.mk hY2
  have HS := Hid.mk hS
  have HR := Hid.mk hR
  unfold frameC at HA1 HB HK1 HK2 HY1 HY2
  unfold frameV at HA1 HA2 ⊢
  clear a1 aa2 a3 hB1 hB2 hB hK1 hK2 hY1 hY2 hS hR hby hby2 hsz hs1 hs2 hl1 hl2
  clear e1 e2 hE hE2 hlo
  go_enter Tryd.func4, Tryd.ntmps4
  go_wp2_with fail
  refine HA1.out.mono ?_
  rintro e w1 ⟨rfl, hb1⟩
  have HB1 := Hid.mk (bl2 HB.out hb1)
  have HK11 := Hid.mk (HK1.out.kept hb1)
  have HK21 := Hid.mk (HK2.out.kept hb1)
  have HY11 := Hid.mk (isBytes_below HY1.out hb1)
  have HY21 := Hid.mk (isBytes_below HY2.out hb1)
  obtain ⟨k0, k1, k2, k3, k4, k5⟩ := HK21.out
  clear hb1 HB HK1 HK2 HY1 HY2 HA1
  go_wp2_with fail
  refine (HA2.out _ (HS.out.kept HB1.out)).mono ?_
  rintro e w2 ⟨rfl, hb2⟩
  have HB2 := Hid.mk (bl2 HB1.out hb2)
  have HK12 := Hid.mk (HK11.out.kept hb2)
  have HK22 := Hid.mk (HK21.out.kept hb2)
  have HY12 := Hid.mk (isBytes_below HY11.out hb2)
  have HY22 := Hid.mk (isBytes_below HY21.out hb2)
  clear hb2 HB1 HK11 HK21 HY11 HY21 HA2 k0 k1 k2 k3 k4 k5
  go_wp2_with fail
  refine (HA3.out _ (HS.out.kept HB2.out) (HR.out.kept HB2.out)).mono ?_
  rintro e w3 ⟨rfl, hb3⟩
  have HB3 := Hid.mk (bl2 HB2.out hb3)
  have HK13 := Hid.mk (HK12.out.kept hb3)
  have HK23 := Hid.mk (HK22.out.kept hb3)
  have HY13 := Hid.mk (isBytes_below HY12.out hb3)
  have HY23 := Hid.mk (isBytes_below HY22.out hb3)
  clear hb3 HB2 HK12 HK22 HY12 HY22
  obtain ⟨j0, j1, j2, j3, j4, j5⟩ := HK13.out
  obtain ⟨m0, m1, m2, m3, m4, m5⟩ := HK23.out
  go_wp2_with fail
  refine (HP1.out _).mono ?_
  rintro e w4 ⟨rfl, hw4⟩
  subst hw4
  go_wp2_with fail
  refine (HP2.out _).mono ?_
  rintro e w5 ⟨rfl, hw5⟩
  subst hw5
  go_wp2_with fail
  go_ret
  exact ⟨rfl, HB3.out⟩
end Bw
namespace frameNames
open Bw
theorem walk (id : Int) (lo fa re : Bool) (sz : Int) (a : Option Addr) (len cap : Nat) (zs : List Int) (id2 : Int) (lo2 fa2 re2 : Bool) (sz2 : Int) (a2 : Option Addr) (len2 cap2 : Nat) (zs2 : List Int) (w : World) (_ : (Lit.int .i64 id).wf = true) (_ : (Lit.int .i64 sz).wf = true) (hz : IsRow .u8 w a len cap zs) (_ : (Lit.int .i64 id2).wf = true) (_ : (Lit.int .i64 sz2).wf = true) (hz2 : IsRow .u8 w a2 len2 cap2 zs2) (hL : laidMet Tryd.prog Rows.frameNamesRow.laid w) :
    Calls Tryd.prog 4 #[frameV id lo fa re sz a len cap, frameV id2 lo2 fa2 re2 sz2 a2 len2 cap2] w fun e w' => e = .returned (.bool true) ∧ Below w.heap.size w w' := by
  have hS := sizes_of hL (by simp [Rows.frameNamesRow])
  have hR := rules_of hL (by simp [Rows.frameNamesRow])
  obtain ⟨l, hl⟩ := isBytes_of_row hz
  obtain ⟨l2, hl2⟩ := isBytes_of_row hz2
  by_cases hE : frE ⟨id, lo, fa, re, sz, l⟩ = 0
  · by_cases hE2 : frE ⟨id2, lo2, fa2, re2, sz2, l2⟩ = 0
    · by_cases hlo : lo = lo2
      · subst hlo
        have hq : ∀ s1 s2 : ByteArray, s1.data.toList = nameL (⟨id, lo, fa, re, sz, l⟩ : Fr) → s2.data.toList = nameL (⟨id2, lo, fa2, re2, sz2, l2⟩ : Fr) → (!(Op.bytesLess s1.toList s2.toList || s1.toList == s2.toList)) = (!(Op.bytesLess (nameL (⟨id, lo, fa, re, sz, l⟩ : Fr)) (nameL (⟨id2, lo, fa2, re2, sz2, l2⟩ : Fr)) || nameL (⟨id, lo, fa, re, sz, l⟩ : Fr) == nameL (⟨id2, lo, fa2, re2, sz2, l2⟩ : Fr))) := by
          intro s1 s2 h1 h2
          rw [ByteArray.toList_eq, ByteArray.toList_eq, h1, h2]
        generalize (!(Op.bytesLess (nameL (⟨id, lo, fa, re, sz, l⟩ : Fr)) (nameL (⟨id2, lo, fa2, re2, sz2, l2⟩ : Fr)) || nameL (⟨id, lo, fa, re, sz, l⟩ : Fr) == nameL (⟨id2, lo, fa2, re2, sz2, l2⟩ : Fr))) = q at hq
        by_cases h1 : id = id2
        · by_cases h2 : re = re2
          · exact names_eq id id2 lo fa fa2 re re2 sz sz2 l l2 a len cap a2 len2 cap2 w hS hR hl hl2 hE hE2 h1 h2
          · cases q
            · exact names_re_false id id2 lo fa fa2 re re2 sz sz2 l l2 a len cap a2 len2 cap2 w hS hR hl hl2 hE hE2 h1 h2 hq
            · exact names_re_true id id2 lo fa fa2 re re2 sz sz2 l l2 a len cap a2 len2 cap2 w hS hR hl hl2 hE hE2 h1 h2 hq
        · by_cases h3 : id < id2
          · cases q
            · exact names_lt_false id id2 lo fa fa2 re re2 sz sz2 l l2 a len cap a2 len2 cap2 w hS hR hl hl2 hE hE2 h3 hq
            · exact names_lt_true id id2 lo fa fa2 re re2 sz sz2 l l2 a len cap a2 len2 cap2 w hS hR hl hl2 hE hE2 h3 hq
          · exact names_gt id id2 lo fa fa2 re re2 sz sz2 l l2 a len cap a2 len2 cap2 w hS hR hl hl2 hE hE2 (by omega)
      · exact names_oth id id2 lo lo2 fa fa2 re re2 sz sz2 l l2 a len cap a2 len2 cap2 w hS hR hl hl2 hE hE2 hlo
    · exact frameNames_bad2 ⟨id, lo, fa, re, sz, l⟩ ⟨id2, lo2, fa2, re2, sz2, l2⟩ a len cap a2 len2 cap2 w hS hR hl hl2 hE hE2
  · exact frameNames_bad1 ⟨id, lo, fa, re, sz, l⟩ ⟨id2, lo2, fa2, re2, sz2, l2⟩ a len cap a2 len2 cap2 w hS hR hl hl2 hE
end frameNames
end Go.Proofs.YtacfkdgepknpkalDoor
