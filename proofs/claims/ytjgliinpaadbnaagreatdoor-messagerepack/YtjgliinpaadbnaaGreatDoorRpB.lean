/- What MessageRepack answers: true. -/
import Derived.Test.YtjgliinpaadbnaaGreatDoorRpA
import Derived.Shelf.Abstract
import Derived.Deep.OwnRows
import Derived.Test.YtjgliinpaadbnaaGreatDoorRows
import Derived.Test.YtjgliinpaadbnaaGreatDoorRefFrame
import Derived.Test.YtjgliinpaadbnaaGreatDoorMsgOpen
import Derived.Test.YtjgliinpaadbnaaGreatDoorSizesRow
namespace Go.Proofs.YtjgliinpaadbnaaGreatDoor
open Go.ChangeShapes Go.WideShapes Go.ChangeAt Go.RowKit
namespace Bw
open Sm
def rqW (w : World) (v t : MsV) (id : Int) (lo fa re : Bool) (sz : Int) (a : Option Addr) (len cap : Nat) : World := ((w.alloc (msC v)).alloc (msC t)).alloc (frameC id lo fa re sz a len cap)
theorem rq_B (w : World) (v t : MsV) (id : Int) (lo fa re : Bool) (sz : Int) (a : Option Addr) (len cap : Nat) : Below w.heap.size w (rqW w v t id lo fa re sz a len cap) := (((Below.refl _ _).alloc (Nat.le_refl _) _).alloc (by simp) _).alloc (by simp; omega) _
theorem rq_v (w : World) (v t : MsV) (id : Int) (lo fa re : Bool) (sz : Int) (a : Option Addr) (len cap : Nat) : MsAt (rqW w v t id lo fa re sz a len cap) w.heap.size v := ((MsAt.box w v).kept (awB1 _ _)).kept (awB1 _ _)
theorem rq_t (w : World) (v t : MsV) (id : Int) (lo fa re : Bool) (sz : Int) (a : Option Addr) (len cap : Nat) : MsAt (rqW w v t id lo fa re sz a len cap) (w.heap.size + 1) t := by
  have := MsAt.box (w.alloc (msC v)) t
  rw [show (w.alloc (msC v)).heap.size = w.heap.size + 1 by simp] at this
  exact this.kept (awB1 _ _)
theorem rq_f (w : World) (v t : MsV) (id : Int) (lo fa re : Bool) (sz : Int) (a : Option Addr) (len cap : Nat) : FrAt (rqW w v t id lo fa re sz a len cap) (w.heap.size + 2) id lo fa re sz a len cap := by
  have := FrAt.box ((w.alloc (msC v)).alloc (msC t)) id lo fa re sz a len cap
  rw [show ((w.alloc (msC v)).alloc (msC t)).heap.size = w.heap.size + 2 by simp] at this
  exact this
theorem zv_new (w : World) : FrAt (w.alloc (.cells #[.int .i64 0, .bool false, .bool false, .bool false, .int .i64 0, .slice none 0 0] 28)) w.heap.size 0 false false false 0 none 0 0 := by
  have h := fun j => cell_of_row (w.alloc (.cells #[.int .i64 0, .bool false, .bool false, .bool false, .int .i64 0, .slice none 0 0] 28)) w.heap.size j _ _ _ (heap_alloc_new w _)
  exact ⟨h 0, h 1, h 2, h 3, h 4, h 5⟩
set_option maxHeartbeats 16000000 in
set_option maxRecDepth 100000 in
theorem repack_bad (hCF : CheckFM) (v t : MsV) (id : Int) (lo fa re : Bool) (sz : Int) (a : Option Addr) (len cap : Nat) (w : World) (hM : MsIn w v) (hT : MsIn w t) (hS : SizesAt w) (hl : len ≤ maxLen) (hE : repE v.m t.m id lo fa re sz len ≠ 0) :
    Calls Tryz.prog 4 #[msV v, msV t, frameV id lo fa re sz a len cap] w fun e w' => e = .returned (.bool true) ∧ Below w.heap.size w w' := by
  have HB0 := Hid.mk (rq_B w v t id lo fa re sz a len cap)
  have HA0 := Hid.mk (rq_v w v t id lo fa re sz a len cap)
  have HT0 := Hid.mk (rq_t w v t id lo fa re sz a len cap)
  have HF0 := Hid.mk (rq_f w v t id lo fa re sz a len cap)
  have HME := Hid.mk (fun W (h : Below w.heap.size w W) => meant_any W (hS.kept h))
  have HCT := Hid.mk (fun W (h : Below w.heap.size w W) => checkMessage_any hCF t W (hT.kept h))
  have HCV := Hid.mk (fun W (h : Below w.heap.size w W) => checkMessage_any hCF v W (hM.kept h))
  have HFR := Hid.mk (fun W => hCF id lo fa re sz a len cap W (by unfold maxLen at hl; omega))
  have HRP := Hid.mk (fun W (h : Below w.heap.size w W) => mrepack_bad v t id lo fa re sz a len cap 0 [] W (hM.kept h) (hT.kept h) (hS.kept h) hl hE)
  have HRB := Hid.mk (fun W (h1 : chkM v.m = 0) (h2 : frEn id lo fa re sz len = 0) (h3 : readE v.m id lo fa re sz len ≠ 0) => readings_bad v id lo fa re sz a len cap W hl h1 h2 h3)
  have H0 : Hid (repE v.m t.m id lo fa re sz len = if chkM t.m ≠ 0 then chkM t.m else readE v.m id lo fa re sz len) := Hid.mk rfl
  have H1 : Hid (chkM v.m ≠ 0 → readE v.m id lo fa re sz len = chkM v.m) := Hid.mk (fun h => readE_chk h)
  have H2 : Hid (chkM v.m = 0 → frEn id lo fa re sz len ≠ 0 → readE v.m id lo fa re sz len = frEn id lo fa re sz len) := Hid.mk (fun h h2 => readE_fr h h2)
  have HNF := Hid.mk (fun W => noFrame_zero W)
  clear hM hT hS hl hCF
  generalize repE v.m t.m id lo fa re sz len = EE at *
  generalize readE v.m id lo fa re sz len = RE at *
  generalize chkM t.m = TE at *
  generalize chkM v.m = VE at *
  generalize frEn id lo fa re sz len = FE at *
  obtain ⟨⟨mid, mlo, mnm, size, mch, sigs⟩, ma, mn, mcap⟩ := v
  obtain ⟨⟨tid, tlo, tnm, tsize, tch, tsigs⟩, ta, tn, tcap⟩ := t
  unfold rqW msC frameC at HB0 HA0 HT0 HF0
  unfold msV at HCT HCV HRP HRB ⊢
  unfold frameV at HFR HRP HRB HNF ⊢
  simp only at HB0 HA0 HT0 HF0 HCT HCV HRP HRB HFR HNF ⊢
  obtain ⟨m0, m1, m2, m3, m4, m5⟩ := HA0.out
  obtain ⟨t0, t1, t2, t3, t4, t5⟩ := HT0.out
  obtain ⟨c0, c1, c2, c3, c4, c5⟩ := HF0.out
  simp only at m0 m1 m2 m3 m4 m5 t0 t1 t2 t3 t4 t5
  have hne : (EE != 0) = true := by simpa using hE
  have HE := Hid.mk hE
  clear hE
  go_enter Tryz.func4, Tryz.ntmps4
  go_wp2_with fail
  refine (HRP.out _ HB0.out).mono ?_
  rintro e w1 ⟨hb1, hcase⟩
  rcases hcase with ⟨_, rfl⟩ | ⟨hz, _⟩
  case inr => exact absurd hz HE.out
  have HX := Hid.mk (awB1 w1 (.cells #[.int .i64 0, .bool false, .bool false, .bool false, .int .i64 0, .slice none 0 0] 28))
  have HB1 := Hid.mk (bl2 HB0.out (bl2 hb1 HX.out))
  have HA1 := Hid.mk ((HA0.out.kept hb1).kept HX.out)
  have HT1 := Hid.mk ((HT0.out.kept hb1).kept HX.out)
  have HF1 := Hid.mk ((HF0.out.kept hb1).kept HX.out)
  have HX1 := Hid.mk (zv_new w1)
  obtain ⟨t0, t1, t2, t3, t4, t5⟩ := HT1.out
  simp only at t0 t1 t2 t3 t4 t5
  unfold zF frameV
  clear hb1 HRP m0 m1 m2 m3 m4 m5 c0 c1 c2 c3 c4 c5
  go_wp2_with fail
  refine (HCT.out _ HB1.out).mono ?_
  rintro e w2 ⟨rfl, hb2⟩
  have HB2 := Hid.mk (bl2 HB1.out hb2)
  have HA2 := Hid.mk (HA1.out.kept hb2)
  have HF2 := Hid.mk (HF1.out.kept hb2)
  have HX2 := Hid.mk (HX1.out.kept hb2)
  clear hb2 HCT
  obtain ⟨m0, m1, m2, m3, m4, m5⟩ := HA2.out
  obtain ⟨c0, c1, c2, c3, c4, c5⟩ := HF2.out
  simp only at m0 m1 m2 m3 m4 m5
  by_cases ht : TE = 0
  case neg =>
    have hcr : EE = TE := by rw [H0.out, if_pos ht]
    subst hcr
    have ht2 : (EE == 0) = false := by simpa using ht
    have HAL := Hid.mk (awB1 w2 (.cells #[.slice none 0 0] 25))
    have HB3 := Hid.mk (bl2 HB2.out HAL.out)
    have HX3 := Hid.mk (HX2.out.kept HAL.out)
    clear ht H0 H1 H2 HRB
    go_wp2_with fail
    refine (HME.out _ HB3.out).mono ?_
    rintro e w4 ⟨rfl, hb4⟩
    have HB4 := Hid.mk (bl2 HB3.out hb4)
    have HX4 := Hid.mk (HX3.out.kept hb4)
    clear hb4
    go_wp2_with fail
    refine (HME.out _ HB4.out).mono ?_
    rintro e w5 ⟨rfl, hb5⟩
    have HB5 := Hid.mk (bl2 HB4.out hb5)
    obtain ⟨x0, x1, x2, x3, x4, x5⟩ := HX4.out.kept hb5
    clear hb5
    go_wp2_with fail
    refine (HNF.out _).mono ?_
    rintro e w6 ⟨rfl, hb6⟩
    have HB6 := Hid.mk (bl2 HB5.out hb6)
    clear hb6
    go_wp2_with fail
    go_ret
    exact ⟨rfl, HB6.out⟩
  case pos =>
  subst ht
  have HEE : Hid (EE = RE) := Hid.mk (by rw [H0.out, if_neg (by simp)])
  have hee := HEE.out
  subst hee
  clear H0 HEE
  go_wp2_with fail
  refine (HCV.out _ HB2.out).mono ?_
  rintro e w3 ⟨rfl, hb3⟩
  have HB3 := Hid.mk (bl2 HB2.out hb3)
  have HA3 := Hid.mk (HA2.out.kept hb3)
  have HF3 := Hid.mk (HF2.out.kept hb3)
  have HX3 := Hid.mk (HX2.out.kept hb3)
  clear hb3 HCV
  obtain ⟨m0, m1, m2, m3, m4, m5⟩ := HA3.out
  obtain ⟨c0, c1, c2, c3, c4, c5⟩ := HF3.out
  simp only at m0 m1 m2 m3 m4 m5
  by_cases hv : VE = 0
  case neg =>
    have hcr := H1.out hv
    subst hcr
    have hv2 : (EE == 0) = false := by simpa using hv
    have HAL := Hid.mk (awB1 w3 (.cells #[.slice none 0 0] 25))
    have HB4 := Hid.mk (bl2 HB3.out HAL.out)
    have HX4 := Hid.mk (HX3.out.kept HAL.out)
    clear hv H1 H2 HRB
    go_wp2_with fail
    refine (HME.out _ HB4.out).mono ?_
    rintro e w5 ⟨rfl, hb5⟩
    have HB5 := Hid.mk (bl2 HB4.out hb5)
    have HX5 := Hid.mk (HX4.out.kept hb5)
    clear hb5
    go_wp2_with fail
    refine (HME.out _ HB5.out).mono ?_
    rintro e w6 ⟨rfl, hb6⟩
    have HB6 := Hid.mk (bl2 HB5.out hb6)
    obtain ⟨x0, x1, x2, x3, x4, x5⟩ := HX5.out.kept hb6
    clear hb6
    go_wp2_with fail
    refine (HNF.out _).mono ?_
    rintro e w7 ⟨rfl, hb7⟩
    have HB7 := Hid.mk (bl2 HB6.out hb7)
    clear hb7
    go_wp2_with fail
    go_ret
    exact ⟨rfl, HB7.out⟩
  case pos =>
  subst hv
  go_wp2_with fail
  refine (HFR.out _).mono ?_
  rintro e w4 ⟨rfl, hb4⟩
  have HAL := Hid.mk (awB1 w4 (.cells #[.slice none 0 0] 25))
  have HB4 := Hid.mk (bl2 HB3.out (bl2 hb4 HAL.out))
  have HA4 := Hid.mk ((HA3.out.kept hb4).kept HAL.out)
  have HF4 := Hid.mk ((HF3.out.kept hb4).kept HAL.out)
  have HX4 := Hid.mk ((HX3.out.kept hb4).kept HAL.out)
  have hLV := heap_alloc_new w4 (.cells #[.slice none 0 0] 25)
  have HLV := Hid.mk hLV
  have HSZ : Hid (w.heap.size ≤ w4.heap.size) := Hid.mk (bl2 HB3.out hb4).size
  have HNE4 : Hid (w1.heap.size ≠ (⟨w4.heap.size, 0, none⟩ : Addr).block) := Hid.mk (fun e => by
    have h1 := block_lt_of_cell ((HX3.out.kept hb4).c0)
    have h2 : (⟨w1.heap.size, 0, none⟩ : Addr).block = w1.heap.size := rfl
    have h3 : (⟨w4.heap.size, 0, none⟩ : Addr).block = w4.heap.size := rfl
    omega)
  clear hb4 HFR hLV
  by_cases hf : FE = 0
  case neg =>
    have hcr := H2.out (by first | rfl | trivial) hf
    subst hcr
    have hf2 : (EE == 0) = false := by simpa using hf
    clear hf H1 H2 HRB
    go_wp2_with fail
    refine (HME.out _ HB4.out).mono ?_
    rintro e w5 ⟨rfl, hb5⟩
    have HB5 := Hid.mk (bl2 HB4.out hb5)
    have HX5 := Hid.mk (HX4.out.kept hb5)
    clear hb5
    go_wp2_with fail
    refine (HME.out _ HB5.out).mono ?_
    rintro e w6 ⟨rfl, hb6⟩
    have HB6 := Hid.mk (bl2 HB5.out hb6)
    obtain ⟨x0, x1, x2, x3, x4, x5⟩ := HX5.out.kept hb6
    clear hb6
    go_wp2_with fail
    refine (HNF.out _).mono ?_
    rintro e w7 ⟨rfl, hb7⟩
    have HB7 := Hid.mk (bl2 HB6.out hb7)
    clear hb7
    go_wp2_with fail
    go_ret
    exact ⟨rfl, HB7.out⟩
  case pos =>
  subst hf
  obtain ⟨m0, m1, m2, m3, m4, m5⟩ := HA4.out
  obtain ⟨c0, c1, c2, c3, c4, c5⟩ := HF4.out
  simp only at m0 m1 m2 m3 m4 m5
  go_wp2_with fail
  refine (HRB.out _ (by first | rfl | trivial) (by first | rfl | trivial) HE.out).mono ?_
  rintro e w5 ⟨rfl, hb5⟩
  have hlt : w4.heap.size < (w4.alloc (.cells #[.slice none 0 0] 25)).heap.size := by simp
  have hrow5 := (hb5.block _ hlt).trans HLV.out
  have q0 := cell_of_row _ _ 0 _ _ _ hrow5
  have f0 := frozen_of_row _ _ 0 _ _ hrow5
  simp only [List.getElem?_toArray, List.getElem?_cons_zero] at q0
  have HB5 := Hid.mk ((bl2 HB4.out hb5).setCell (p := ⟨w4.heap.size, 0, none⟩) HSZ.out (.slice none 0 0))
  have HX5 := Hid.mk ((HX4.out.kept hb5).blk (heap_setCell_other w5 ⟨w4.heap.size, 0, none⟩ w1.heap.size (.slice none 0 0) HNE4.out))
  clear hb5 hrow5 hlt HRB
  go_wp2_with fail
  refine (HME.out _ HB5.out).mono ?_
  rintro e w6 ⟨rfl, hb6⟩
  have HB6 := Hid.mk (bl2 HB5.out hb6)
  have HX6 := Hid.mk (HX5.out.kept hb6)
  clear hb6
  go_wp2_with fail
  refine (HME.out _ HB6.out).mono ?_
  rintro e w7 ⟨rfl, hb7⟩
  have HB7 := Hid.mk (bl2 HB6.out hb7)
  obtain ⟨x0, x1, x2, x3, x4, x5⟩ := HX6.out.kept hb7
  clear hb7
  go_wp2_with fail
  refine (HNF.out _).mono ?_
  rintro e w8 ⟨rfl, hb8⟩
  have HB8 := Hid.mk (bl2 HB7.out hb8)
  clear hb8
  go_wp2_with fail
  go_ret
  exact ⟨rfl, HB8.out⟩
end Bw
end Go.Proofs.YtjgliinpaadbnaaGreatDoor
namespace Go.Proofs.YtjgliinpaadbnaaGreatDoor
open Go.ChangeShapes Go.WideShapes Go.ChangeAt Go.RowKit Go.Sort
namespace Bw
open Sm
theorem wr_otherG {s t : Sig} {n : Nat} {d : List UInt8} (h : chkS s n = 0) (h' : chkS t n = 0) (ho : ovS s t = false) (hd : d.length = n) (num den : Int) : rawD s (wrD t d num den) = rawD s d := by
  have hR' := rt_of h'
  have ha := ovN_apart (show ovN s.bk s.st.toNat s.sz.toNat t.bk t.st.toNat t.sz.toNat = false from ho)
  have hu : uN s.bk s.st.toNat s.sz.toNat (wrD t d num den) = uN s.bk s.st.toNat s.sz.toNat d := by
    unfold uN
    exact sumK_congr (fun i hi => wrS_other hR' hd _ (fun j hj e => ha j hj i hi e.symm))
  have _ := h
  unfold rawD rawR
  rw [hu]
theorem cho_put {m : Msg} (hO : OkM m) {n : Nat} (hn : m.size = n) (l : List Rd) {c : Int} {i : Nat} (hi : i < m.sigs.length) (hne : (i : Int) ≠ m.ch) (ht : thB c (m.at i) = true) {d : List UInt8} (hd : d.length = n) : choD m (putP l (m.at i) d).2 = choD m d := by
  by_cases hc : 0 ≤ m.ch
  · have h1 := hO.ch1
    have hs := hO.sig hi
    have hsc := hO.sig (i := m.ch.toNat) (by omega)
    rw [hn] at hs hsc
    have htc : thB c (m.at m.ch.toNat) = true := by
      unfold thB
      rw [hO.choo hc]
      rfl
    have hap := there_apart hO (i := m.ch.toNat) (j := i) (by omega) hi (by omega) htc ht
    unfold choD
    rw [if_pos hc, if_pos hc]
    unfold putP
    split
    · rfl
    · split
      · exact wr_otherG hsc hs hap hd _ _
      · rfl
  · unfold choD
    rw [if_neg hc, if_neg hc]
/-- what stands while the law's loop runs -/
structure RpS (w : World) (t : MsV) (gt gx gl : Nat) (xa : Option Addr) (n8 xc : Nat) (BX : List UInt8) (la : Option Addr) (ln lc : Nat) (RL : List Rd) : Prop where
  ms : MsAt w gt t
  inn : MsIn w t
  x : FrAt w gx t.m.id t.m.lo false false 0 xa n8 xc
  xb : IsBytes w xa n8 xc BX
  lv : w.cell? ⟨gl, 0, none⟩ = some (.slice la ln lc)
  rd : IsRds w la ln lc RL
theorem RpS.kept {w w' : World} {t : MsV} {gt gx gl : Nat} {xa : Option Addr} {n8 xc : Nat} {BX : List UInt8} {la : Option Addr} {ln lc : Nat} {RL : List Rd} (h : RpS w t gt gx gl xa n8 xc BX la ln lc RL) (hb : Below w.heap.size w w') : RpS w' t gt gx gl xa n8 xc BX la ln lc RL :=
  ⟨h.ms.kept hb, h.inn.kept hb, h.x.kept hb, isBytes_below h.xb hb, cell_kept hb h.lv, h.rd.kept hb⟩
theorem dv_sigs {w w' : World} {g : Nat} {a : Option Addr} {n c : Nat} (h : DvAt w g a n c) (hg : w.grownBy w' (some g)) {la : Option Addr} {ln lc : Nat} {l : List Sig} (hl : IsSigs w la ln lc l) : IsSigs w' la ln lc l :=
  ⟨hl.len, hl.le, hl.max, hl.none, fun x hx i hi k hk => by
    have h1 := hl.cell x hx i hi k hk
    have h2 : k < (sgCl l[i]).length := hk
    rw [List.getElem?_eq_getElem h2] at h1 ⊢
    refine dv_cell h hg h1 ?_
    unfold sgCl at h2 ⊢
    match k, hk with
    | 0, _ => exact fun _ _ _ e => by cases e
    | 1, _ => exact fun _ _ _ e => by cases e
    | 2, _ => exact fun _ _ _ e => by cases e
    | 3, _ => exact fun _ _ _ e => by cases e
    | 4, _ => exact fun _ _ _ e => by cases e
    | 5, _ => exact fun _ _ _ e => by cases e
    | 6, _ => exact fun _ _ _ e => by cases e
    | 7, _ => exact fun _ _ _ e => by cases e
    | 8, _ => exact fun _ _ _ e => by cases e⟩
theorem oc_cell {T : TypeId} {w w' : World} {g : Nat} {a : Option Addr} {n c : Nat} (h : w.heap[g]? = some (.cells #[.slice a n c] T (0, 0))) (hg : w.grownBy w' (some g)) {y : Addr} {v : Value} (hv : w.cell? y = some v) (hn : notSl v) : w'.cell? y = some v :=
  hg.cell hv (fun e => by
    have e1 : y.block = g := by simpa using e
    unfold World.cell? at hv
    rw [e1, h] at hv
    simp only at hv
    generalize y.off = o at hv
    rcases o with _ | o
    · simp at hv
      exact hn a n c hv.2.symm
    · simp at hv)
theorem oc_rds {T : TypeId} {w w' : World} {g : Nat} {a : Option Addr} {n c : Nat} (h : w.heap[g]? = some (.cells #[.slice a n c] T (0, 0))) (hg : w.grownBy w' (some g)) {la : Option Addr} {ln lc : Nat} {l : List Rd} (hl : IsRds w la ln lc l) : IsRds w' la ln lc l :=
  ⟨hl.len, hl.le, hl.max, hl.none, fun x hx i hi k hk => by
    have h1 := hl.cell x hx i hi k hk
    have h2 : k < (rdCl l[i]).length := hk
    rw [List.getElem?_eq_getElem h2] at h1 ⊢
    refine oc_cell h hg h1 ?_
    unfold rdCl at h2 ⊢
    match k, hk with
    | 0, _ => exact fun _ _ _ e => by cases e
    | 1, _ => exact fun _ _ _ e => by cases e
    | 2, _ => exact fun _ _ _ e => by cases e⟩
theorem oc_bytes {T : TypeId} {w w' : World} {g : Nat} {a : Option Addr} {n c : Nat} (h : w.heap[g]? = some (.cells #[.slice a n c] T (0, 0))) (hg : w.grownBy w' (some g)) {b : Option Addr} {len cap : Nat} {l : List UInt8} (hB : IsBytes w b len cap l) : IsBytes w' b len cap l :=
  ⟨hB.1, hB.2.1, hB.2.2.1, hB.2.2.2.1, fun x hx i hi => oc_cell h hg (hB.2.2.2.2 x hx i hi) (fun _ _ _ e => by cases e)⟩
theorem RpS.dv {w w' : World} {t : MsV} {gt gx gl gd : Nat} {xa : Option Addr} {n8 xc : Nat} {BX : List UInt8} {la : Option Addr} {ln lc : Nat} {RL : List Rd} {a : Option Addr} {n c : Nat} (h : RpS w t gt gx gl xa n8 xc BX la ln lc RL) (hd : DvAt w gd a n c) (hg : w.grownBy w' (some gd)) (ht : gt ≠ gd) (hx : gx ≠ gd) (hl : gl ≠ gd) : RpS w' t gt gx gl xa n8 xc BX la ln lc RL := by
  have k1 : some gt ≠ some gd := fun e => ht (by simpa using e)
  have k2 : some gx ≠ some gd := fun e => hx (by simpa using e)
  have k3 : some gl ≠ some gd := fun e => hl (by simpa using e)
  exact ⟨⟨hg.cell h.ms.c0 k1, hg.cell h.ms.c1 k1, hg.cell h.ms.c2 k1, hg.cell h.ms.c3 k1, hg.cell h.ms.c4 k1, hg.cell h.ms.c5 k1⟩, ⟨h.inn.nm, dv_sigs hd hg h.inn.row, h.inn.wf⟩, ⟨hg.cell h.x.c0 k2, hg.cell h.x.c1 k2, hg.cell h.x.c2 k2, hg.cell h.x.c3 k2, hg.cell h.x.c4 k2, hg.cell h.x.c5 k2⟩, dv_bytes hd hg h.xb, hg.cell h.lv k3, dv_rds hd hg h.rd⟩
end Bw
end Go.Proofs.YtjgliinpaadbnaaGreatDoor
namespace Go.Proofs.YtjgliinpaadbnaaGreatDoor
open Go.ChangeShapes Go.WideShapes Go.ChangeAt Go.RowKit Go.Sort
namespace Bw
open Sm
theorem enter_dput : ∀ args w, (callFunc 16 args).run Tryz.prog w = .ok (.enter 16 args) w := enters_of Tryz.func16 (by kernel_rfl) rfl
theorem xv_new (w : World) (id : Int) (lo : Bool) (a : Option Addr) (n c : Nat) : FrAt (w.alloc (.cells #[.int .i64 id, .bool lo, .bool false, .bool false, .int .i64 0, .slice a n c] 28)) w.heap.size id lo false false 0 a n c := by
  have h := fun j => cell_of_row (w.alloc (.cells #[.int .i64 id, .bool lo, .bool false, .bool false, .int .i64 0, .slice a n c] 28)) w.heap.size j _ _ _ (heap_alloc_new w _)
  exact ⟨h 0, h 1, h 2, h 3, h 4, h 5⟩
theorem MsAt.blk {w w' : World} {g : Nat} {v : MsV} (h : MsAt w g v) (hb : w'.heap[g]? = w.heap[g]?) : MsAt w' g v :=
  ⟨(World.cell?_of_block (a := ⟨g, 0, none⟩) hb).trans h.c0, (World.cell?_of_block (a := ⟨g, 1, none⟩) hb).trans h.c1, (World.cell?_of_block (a := ⟨g, 2, none⟩) hb).trans h.c2, (World.cell?_of_block (a := ⟨g, 3, none⟩) hb).trans h.c3, (World.cell?_of_block (a := ⟨g, 4, none⟩) hb).trans h.c4, (World.cell?_of_block (a := ⟨g, 5, none⟩) hb).trans h.c5⟩
/-- a variable of readings -/
def LvAt (w : World) (g : Nat) (a : Option Addr) (n c : Nat) : Prop := w.heap[g]? = some (.cells #[.slice a n c] 25 (0, 0))
set_option maxHeartbeats 32000000 in
set_option maxRecDepth 100000 in
theorem repack_none (hCF : CheckFM) (v t : MsV) (id : Int) (lo fa re : Bool) (sz : Int) (a : Option Addr) (len cap : Nat) (dt : List UInt8) (w : World) (hM : MsIn w v) (hT : MsIn w t) (hS : SizesAt w) (hD : IsBytes w a len cap dt) (hE : chkM t.m = 0) (hR : readE v.m id lo fa re sz len = 0) (HCH : t.m.ch < 0) :
    Calls Tryz.prog 4 #[msV v, msV t, frameV id lo fa re sz a len cap] w fun e w' => e = .returned (.bool true) ∧ Below w.heap.size w w' := by
  have hO := chkM_ok hE
  obtain ⟨hOv, hFE, -, -, -⟩ := readE_ok hR
  have hCV : chkM v.m = 0 := by
    have h9 := hR
    unfold readE at h9
    split at h9
    · rename_i h1; exact absurd h9 h1
    · rename_i h1; exact Decidable.not_not.1 h1
  have hlm : len ≤ maxLen := Nat.le_trans hD.2.1 hD.2.2.1
  obtain ⟨n8, hn8⟩ : ∃ n8 : Nat, t.m.size = n8 := ⟨t.m.size.toNat, by have := hO.size0; omega⟩
  have hn88 : n8 ≤ 8 := by have := hO.size8; omega
  have HB0 := Hid.mk (rq_B w v t id lo fa re sz a len cap)
  have HA0 := Hid.mk (rq_v w v t id lo fa re sz a len cap)
  have HT0 := Hid.mk (rq_t w v t id lo fa re sz a len cap)
  have HF0 := Hid.mk (rq_f w v t id lo fa re sz a len cap)
  have HME := Hid.mk (fun W (h : Below w.heap.size w W) => meant_any W (hS.kept h))
  have hCT := fun W (h : Below w.heap.size w W) => checkMessage_any hCF t W (hT.kept h)
  have hCVc := fun W (h : Below w.heap.size w W) => checkMessage_any hCF v W (hM.kept h)
  have hFR := fun W => hCF id lo fa re sz a len cap W (by unfold maxLen at hlm; omega)
  rw [hE] at hCT
  rw [hCV] at hCVc
  rw [hFE] at hFR
  have HCT := Hid.mk hCT
  have HCV := Hid.mk hCVc
  have HFR := Hid.mk hFR
  have HRP := Hid.mk (fun W (h : Below w.heap.size w W) => mrepack_ok v t id lo fa re sz a len cap dt n8 W (hM.kept h) (hT.kept h) (hS.kept h) (isBytes_below hD h) hE hR hn8)
  obtain ⟨nR, hnR⟩ : ∃ nR, (readsD v.m dt).length = nR := ⟨_, rfl⟩
  have HRB := Hid.mk (fun W (h : Below w.heap.size w W) => rds_post hnR (readings_ok v id lo fa re sz a len cap dt W (hM.kept h) (isBytes_below hD h) hR))
  have hlen : t.m.sigs.length = t.n := hT.row.len
  have HITH := Hid.mk (fun k a c d W (hk : k < t.n) (hI : MsIn W t) (hB : IsBytes W a n8 c d) => isThereD_any t k a n8 c d W hI hB hO (by rw [hlen]; exact hk) hn8 (Nat.le_refl _) (by omega))
  have HTIN := Hid.mk (fun W (h : Below w.heap.size w W) => hT.kept h)
  have HNT2 := Hid.mk (reads_apart hOv dt)
  have HPUTA := Hid.mk (fun gl gd la lc k a c d W (hk : k < t.n) h1 h2 h3 h4 => dput_any (readsD v.m dt) (t.m.at k) gl gd la nR lc a n8 c d W h1 h2 h3 h4 HNT2.out (by rw [← hn8]; exact hO.sig (by rw [hlen]; exact hk)))
  have HSF := Hid.mk (fun W a1 c1 a2 c2 (h1 : IsBytes W a1 n8 c1 (fillE (putP (readsD v.m dt)) t.m).2) (h2 : IsBytes W a2 n8 c2 (fillE (putP (readsD v.m dt)) t.m).2) => sameFrame_true ⟨t.m.id, t.m.lo, false, false, 0, (fillE (putP (readsD v.m dt)) t.m).2⟩ a1 a2 n8 c1 n8 c2 W h1 h2)
  have HYES := Hid.mk (fun c k (h : othB t.m c k = true) => othK_yes t.m c h)
  have HNO := Hid.mk (fun c k (h : othB t.m c k = false) => othK_no t.m c h)
  have HOBD : Hid (∀ c k, othB t.m c k = (!((k : Int) == t.m.ch) && thB c (t.m.at k))) := Hid.mk (fun _ _ => rfl)
  have HOK0 : Hid (∀ c, othK t.m c 0 = []) := Hid.mk (fun _ => rfl)
  have HGD : Hid (∀ i, t.m.at i = t.m.sigs.getD i noS) := Hid.mk (fun _ => rfl)
  have HCPA := Hid.mk (fun c k (d : List UInt8) (hk : k < t.n) (h1 : (k : Int) ≠ t.m.ch) (h2 : thB c (t.m.at k) = true) (hd : d.length = n8) => cho_put hO hn8 (readsD v.m dt) (c := c) (by rw [hlen]; exact hk) h1 h2 hd)
  have HZERO := Hid.mk (fun k d => putP_zero (readsD v.m dt) (t.m.at k) d)
  have hz0 : zerosM t.m = List.replicate n8 0 := by unfold zerosM; rw [hn8]; rfl
  have hmk : ∀ W : World, (Instr.makeSlice 26 (.int .i64 (n8 : Int)) (.int .i64 (n8 : Int))).run Tryz.prog W = .ok (.slice (some ⟨W.heap.size, 0, none⟩) n8 n8) (W.alloc (.cells (madeCells #[.int .u8 0] n8) 5)) := by
    intro W
    exact run_make_row' 26 5 (.int .u8 0) 1 Tryz.underlying26 info_u8M rfl .i64 .i64 n8 (by omega) (by omega) W
  have hn16 : t.n ≤ 16 := by have := hO.many; omega
  have hCE : chooE (putP (readsD v.m dt)) t.m = (0, List.replicate n8 0) := by unfold chooE; rw [if_neg (by omega), hz0]
  have HRESA : Hid ((fillE (putP (readsD v.m dt)) t.m).2 = (goE (putP (readsD v.m dt)) (othK t.m (choD t.m (List.replicate n8 0)) t.n) (List.replicate n8 0)).2) := Hid.mk (by unfold fillE; rw [hCE]; simp only [if_true]; rw [hlen])
  clear hCE
  clear hM hT hS hD hE hR hO hOv hFE hCV hlm hCT hCVc hFR hnR hlen hz0 hCF HNT2
  generalize (fillE (putP (readsD v.m dt)) t.m).2 = BX at *
  generalize readsD v.m dt = RL at *
  generalize hOK : othK t.m = OK at *
  generalize hOB : othB t.m = OB at *
  generalize hCD : choD t.m = CD at *
  generalize hSS : t.m.at = S at *
  clear hOK hOB hCD hSS
  obtain ⟨⟨mid, mlo, mnm, size, mch, sigs⟩, ma, mn, mcap⟩ := v
  obtain ⟨⟨tid, tlo, tnm, tsize, tch, tsigs⟩, ta, tn, tcap⟩ := t
  simp only at hn8 HCH
  subst hn8
  unfold rqW msC frameC at HB0 HA0 HT0 HF0
  unfold msV at HCT HCV HRP HRB
  unfold msV
  unfold frameV at HFR HRP HRB HSF ⊢
  simp only at HB0 HA0 HT0 HF0 HCT HCV HRP HRB HFR HITH HTIN HPUTA HSF HOBD HGD HCPA hn16 ⊢
  obtain ⟨m0, m1, m2, m3, m4, m5⟩ := HA0.out
  obtain ⟨t0, t1, t2, t3, t4, t5⟩ := HT0.out
  obtain ⟨c0, c1, c2, c3, c4, c5⟩ := HF0.out
  simp only at m0 m1 m2 m3 m4 m5 t0 t1 t2 t3 t4 t5
  have hent := enter_dput
  go_enter Tryz.func4, Tryz.ntmps4
  go_wp2_with fail
  refine (HRP.out _ HB0.out).mono ?_
  rintro e w1 ⟨hb1, hcase⟩
  rcases hcase with ⟨hne, _⟩ | ⟨_, xa, xc, rfl, hX1⟩
  · exact absurd rfl hne
  have HX := Hid.mk (awB1 w1 (.cells #[.int .i64 tid, .bool tlo, .bool false, .bool false, .int .i64 0, .slice xa n8 xc] 28))
  have HB1 := Hid.mk (bl2 HB0.out (bl2 hb1 HX.out))
  have HA1 := Hid.mk ((HA0.out.kept hb1).kept HX.out)
  have HT1 := Hid.mk ((HT0.out.kept hb1).kept HX.out)
  have HF1 := Hid.mk ((HF0.out.kept hb1).kept HX.out)
  have HX1 := Hid.mk (xv_new w1 tid tlo xa n8 xc)
  have HXB1 := Hid.mk (isBytes_below hX1 HX.out)
  obtain ⟨t0, t1, t2, t3, t4, t5⟩ := HT1.out
  simp only at t0 t1 t2 t3 t4 t5
  unfold frameV
  clear hb1 hX1 HRP m0 m1 m2 m3 m4 m5 c0 c1 c2 c3 c4 c5
  go_wp2_with fail
  refine (HCT.out _ HB1.out).mono ?_
  rintro e w2 ⟨rfl, hb2⟩
  have HB2 := Hid.mk (bl2 HB1.out hb2)
  have HA2 := Hid.mk (HA1.out.kept hb2)
  obtain ⟨m0, m1, m2, m3, m4, m5⟩ := HA2.out
  simp only at m0 m1 m2 m3 m4 m5
  go_wp2_with fail
  refine (HCV.out _ HB2.out).mono ?_
  rintro e w3 ⟨rfl, hb3⟩
  have HB3 := Hid.mk (bl2 HB2.out hb3)
  have hb23 := bl2 hb2 hb3
  have HF3 := Hid.mk (HF1.out.kept hb23)
  obtain ⟨c0, c1, c2, c3, c4, c5⟩ := HF3.out
  clear m0 m1 m2 m3 m4 m5
  go_wp2_with fail
  refine (HFR.out _).mono ?_
  rintro e w4 ⟨rfl, hb4⟩
  have hb24 := bl2 hb23 hb4
  have HAL := Hid.mk (awB1 w4 (.cells #[.slice none 0 0] 25))
  have hb25 := bl2 hb24 HAL.out
  have HB4 := Hid.mk (bl2 HB1.out hb25)
  have HA4 := Hid.mk (HA1.out.kept hb25)
  have HF4 := Hid.mk (HF1.out.kept hb25)
  have HT4 := Hid.mk (HT1.out.kept hb25)
  have HX4 := Hid.mk (HX1.out.kept hb25)
  have HXB4 := Hid.mk (isBytes_below HXB1.out hb25)
  have HSZ4 : Hid (w.heap.size ≤ w4.heap.size) := Hid.mk (bl2 HB1.out hb24).size
  have HLT4 : Hid (w1.heap.size < w4.heap.size ∧ w.heap.size + 1 < w4.heap.size) := Hid.mk ⟨by
    have h1 := block_lt_of_cell ((HX1.out.kept hb24).c0)
    exact h1, by
    have h1 := block_lt_of_cell ((HT1.out.kept hb24).c0)
    exact h1⟩
  have HLV := Hid.mk (heap_alloc_new w4 (.cells #[.slice none 0 0] 25))
  obtain ⟨m0, m1, m2, m3, m4, m5⟩ := HA4.out
  obtain ⟨d0, d1, d2, d3, d4, d5⟩ := HF4.out
  simp only at m0 m1 m2 m3 m4 m5
  clear hb2 hb3 hb4 hb23 hb24 hb25 c0 c1 c2 c3 c4 c5
  go_wp2_with fail
  refine (HRB.out _ HB4.out).mono ?_
  rintro e w5 ⟨la, lc, rfl, hR5, hb5⟩
  have hlt : w4.heap.size < (w4.alloc (.cells #[.slice none 0 0] 25)).heap.size := by simp
  have hrow5 := (hb5.block _ hlt).trans HLV.out
  have q0 := cell_of_row _ _ 0 _ _ _ hrow5
  have f0 := frozen_of_row _ _ 0 _ _ hrow5
  simp only [List.getElem?_toArray, List.getElem?_cons_zero] at q0
  have hg5 : w5.grownBy (w5.setCell ⟨w4.heap.size, 0, none⟩ (.slice la nR lc)) (some w4.heap.size) := ⟨rfl, rfl, rfl, by simp, fun k _ hk => heap_setCell_other w5 ⟨w4.heap.size, 0, none⟩ k _ (fun e => hk (by rw [e]))⟩
  have hlv5 := heap_setCell_same w5 w4.heap.size 0 _ _ (.slice la nR lc) hrow5
  obtain ⟨W5, hW5⟩ : ∃ W5, W5 = w5.setCell ⟨w4.heap.size, 0, none⟩ (.slice la nR lc) := ⟨_, rfl⟩
  have HB5 := Hid.mk ((bl2 HB4.out hb5).setCell (p := ⟨w4.heap.size, 0, none⟩) HSZ4.out (.slice la nR lc))
  have HT5 := Hid.mk ((HT4.out.kept hb5).blk (w' := W5) (by rw [hW5]; exact heap_setCell_other w5 ⟨w4.heap.size, 0, none⟩ (w.heap.size + 1) _ (fun e => by have := HLT4.out.2; have h3 : (⟨w4.heap.size, 0, none⟩ : Addr).block = w4.heap.size := rfl; omega)))
  have HX5 := Hid.mk ((HX4.out.kept hb5).blk (w' := W5) (by rw [hW5]; exact heap_setCell_other w5 ⟨w4.heap.size, 0, none⟩ w1.heap.size _ (fun e => by have := HLT4.out.1; have h3 : (⟨w4.heap.size, 0, none⟩ : Addr).block = w4.heap.size := rfl; omega)))
  rw [← hW5] at hg5 hlv5 HB5
  have HXB5 := Hid.mk (oc_bytes hrow5 hg5 (isBytes_below HXB4.out hb5))
  have HR5 := Hid.mk (oc_rds hrow5 hg5 hR5)
  have HLV5 : Hid (W5.cell? ⟨w4.heap.size, 0, none⟩ = some (.slice la nR lc)) := Hid.mk (cell_of_row _ _ 0 _ _ _ hlv5)
  have HW5 := Hid.mk hW5
  clear hb5 hlt hrow5 hg5 hlv5 hW5 hR5 m0 m1 m2 m3 m4 m5 d0 d1 d2 d3 d4 d5 t0 t1 t2 t3 t4 t5
  go_wp2_with fail
  rw [← HW5.out]
  refine (HME.out _ HB5.out).mono ?_
  rintro e w6 ⟨rfl, hb6⟩
  have HB6 := Hid.mk (bl2 HB5.out hb6)
  have HT6 := Hid.mk (HT5.out.kept hb6)
  obtain ⟨t0, t1, t2, t3, t4, t5⟩ := HT6.out
  simp only at t0 t1 t2 t3 t4 t5
  have hAZ := awB1 w6 (.cells (madeCells #[.int .u8 0] n8) 5)
  have hAV := awB1 (w6.alloc (.cells (madeCells #[.int .u8 0] n8) 5)) (.cells #[.slice (some ⟨w6.heap.size, 0, none⟩) n8 n8] 26)
  have hb67 := bl2 hb6 (bl2 hAZ hAV)
  have HB7 := Hid.mk (bl2 HB5.out hb67)
  have HS7 := Hid.mk (show RpS _ ⟨⟨tid, tlo, tnm, (n8 : Int), tch, tsigs⟩, ta, tn, tcap⟩ (w.heap.size + 1) w1.heap.size w4.heap.size xa n8 xc BX la nR lc RL from ⟨HT5.out.kept hb67, HTIN.out _ HB7.out, HX5.out.kept hb67, isBytes_below HXB5.out hb67, cell_kept hb67 HLV5.out, HR5.out.kept hb67⟩)
  have HDv7 : Hid (DvAt ((w6.alloc (.cells (madeCells #[.int .u8 0] n8) 5)).alloc (.cells #[.slice (some ⟨w6.heap.size, 0, none⟩) n8 n8] 26)) (w6.heap.size + 1) (some ⟨w6.heap.size, 0, none⟩) n8 n8) := Hid.mk (by
    have := heap_alloc_new (w6.alloc (.cells (madeCells #[.int .u8 0] n8) 5)) (.cells #[.slice (some ⟨w6.heap.size, 0, none⟩) n8 n8] 26)
    rw [show (w6.alloc (.cells (madeCells #[.int .u8 0] n8) 5)).heap.size = w6.heap.size + 1 by simp] at this
    exact this)
  have HD7 := Hid.mk (isBytes_below (zeros_at w6 n8 (by omega)) hAV)
  have hlt6 := block_lt_of_cell HLV5.out
  have hlt6' : w4.heap.size < W5.heap.size := hlt6
  have hs6 := hb6.size
  have HNT : Hid (w.heap.size + 1 ≠ w6.heap.size + 1) := Hid.mk (by have := HLT4.out.2; omega)
  have HNX : Hid (w1.heap.size ≠ w6.heap.size + 1) := Hid.mk (by have := HLT4.out.1; omega)
  have HNL : Hid (w4.heap.size ≠ w6.heap.size + 1) := Hid.mk (by omega)
  have HGDL : Hid (w.heap.size ≤ w6.heap.size + 1) := Hid.mk (by have := HLT4.out.2; omega)
  obtain ⟨o0, o1, o2, o3, o4, o5⟩ := HS7.out.ms
  simp only at o0 o1 o2 o3 o4 o5
  clear hb6 hAZ hAV hb67 hlt6 hlt6' hs6
  obtain ⟨DA, hDA⟩ : ∃ D, D = List.replicate n8 (0 : UInt8) := ⟨_, rfl⟩
  rw [← hDA] at HD7 HRESA
  obtain ⟨CHO, hCHO⟩ : ∃ c, c = CD DA := ⟨_, rfl⟩
  have HCHO := Hid.mk hCHO
  rw [← hCHO] at HRESA
  have HRES := HRESA
  have HPUT := Hid.mk (fun k a c d W (hk : k < tn) h1 h2 h3 h4 => HPUTA.out w4.heap.size (w6.heap.size + 1) la lc k a c d W hk h1 h2 h3 h4)
  have HCP := Hid.mk (fun k d (hk : k < tn) h1 h2 hd => HCPA.out CHO k d hk h1 h2 hd)
  clear hDA hCHO HPUTA HCPA HRESA
  go_wp2_with fail
  go_loopw [74] (fun i wr => ∃ k : Nat, k ≤ tn ∧ i = .int .i64 k ∧ ∃ a c dk, Hid (DvAt wr (w6.heap.size + 1) a n8 c) ∧ Hid (IsBytes wr a n8 c dk) ∧ Hid (goE (putP RL) (OK CHO k) DA = (0, dk)) ∧ Hid (CD dk = CHO) ∧ Hid (RpS wr ⟨⟨tid, tlo, tnm, (n8 : Int), tch, tsigs⟩, ta, tn, tcap⟩ (w.heap.size + 1) w1.heap.size w4.heap.size xa n8 xc BX la nR lc RL) ∧ Hid (Below w.heap.size w wr)) (fun i _ => tn - (intOf i).toNat)
  case atStart => exact ⟨0, Nat.zero_le _, rfl, _, _, DA, HDv7, HD7, Hid.mk (by rw [HOK0.out]; rfl), Hid.mk HCHO.out.symm, HS7, HB7⟩
  case round =>
    obtain ⟨k, hk, rfl, ak, ck, dk, HDv, HD, HGk, HCk, HS, HB⟩ := hrel
    by_cases hlt : k < tn
    · have hlt' : (k : Int) < (tn : Int) := by omega
      obtain ⟨x, hx⟩ := HS.out.inn.row.some hlt
      cases hx
      have hSg := HS.out.inn.row.at hlt
      rw [← HGD.out] at hSg
      have HBX1 := Hid.mk (sg_box wr (S k))
      have HSAT := Hid.mk (SgAt.box wr (S k))
      have hTHk := fun W (hI : MsIn W _) (hB : IsBytes W ak n8 ck dk) => HITH.out k ak ck dk W hlt hI hB
      rw [HCk.out] at hTHk
      have HTH := Hid.mk hTHk
      clear hTHk
      have HPk := Hid.mk (fun W h1 h2 h3 h4 => HPUT.out k ak ck dk W hlt h1 h2 h3 h4)
      have HYk := Hid.mk (HYES.out CHO k)
      have HNk := Hid.mk (HNO.out CHO k)
      have HOB : Hid (OB CHO k = (!((k : Int) == tch) && thB CHO (S k))) := Hid.mk (HOBD.out CHO k)
      have HCPk := Hid.mk (fun h1 h2 => HCP.out k dk hlt h1 h2 HD.out.1)
      have HPZ := Hid.mk (HZERO.out k dk)
      have HS1 := Hid.mk (HS.out.kept HBX1.out)
      have HDv1 := Hid.mk (HDv.out.kept HBX1.out)
      have HD1 := Hid.mk (isBytes_below HD.out HBX1.out)
      have HB1 := Hid.mk (bl2 HB.out HBX1.out)
      have HSK : Hid (∃ y, y = S k) := Hid.mk ⟨_, rfl⟩
      obtain ⟨sk, hsk⟩ := HSK.out
      rw [← hsk] at hSg
      simp only [← hsk] at HBX1 HSAT HTH HPk HYk HOB HCPk HPZ HS1 HDv1 HD1 HB1
      clear hsk HSK
      generalize thB CHO sk = TH at *
      generalize hput : putP RL sk dk = PD at *
      have HPD := Hid.mk hput
      clear hput
      have HSN : Hid (goE (putP RL) (OK CHO k ++ [sk]) DA = (0, PD.2)) := Hid.mk (by rw [goE_snoc HGk.out (by rw [HPD.out]; exact HPZ.out), HPD.out])
      obtain ⟨nm, st, sz, bk, sg, mu, di, ad, ky⟩ := sk
      unfold sgC at HBX1 HSAT HS1 HDv1 HD1 HB1
      unfold sgV at HTH HPk
      unfold msV at HTH
      simp only at HBX1 HSAT HTH HPk HYk HS1 HDv1 HD1 HB1 HSN
      obtain ⟨s0, s1, s2, s3, s4, s5, s6, s7, s8⟩ := hSg
      simp only at s0 s1 s2 s3 s4 s5 s6 s7 s8
      obtain ⟨v0, v1, v2, v3, v4, v5, v6, v7, v8⟩ := HSAT.out
      simp only at v0 v1 v2 v3 v4 v5 v6 v7 v8
      obtain ⟨t0, t1, t2, t3, t4, t5⟩ := HS1.out.ms
      simp only at t0 t1 t2 t3 t4 t5
      have d0 := cell_of_row _ _ 0 _ _ _ HDv1.out
      simp only [List.getElem?_toArray, List.getElem?_cons_zero] at d0
      by_cases hkc : (k : Int) = tch
      · have HN := Hid.mk (HNk.out (by rw [HOB.out, hkc]; simp))
        have hke : ((k : Int) == tch) = true := by simpa using hkc
        have hke2 : ((k : Int) != tch) = false := by rw [bne, hke]; rfl
        clear hkc
        go_wp2_with fail
        go_roundw
        case rel => exact ⟨k + 1, by omega, by go_num, ak, ck, dk, HDv1, HD1, by rw [HN.out]; exact HGk, HCk, HS1, HB1⟩
        case measure => simp [intOf]; omega
      · have hke : ((k : Int) == tch) = false := by simpa using hkc
        have HNE := Hid.mk hkc
        clear hkc
        cases TH with
        | false =>
          have HN := Hid.mk (HNk.out (by rw [HOB.out]; simp))
          go_wp2_with fail
          refine (HTH.out _ HS1.out.inn HD1.out).mono ?_
          rintro e w8 ⟨rfl, hb8⟩
          have HS8 := Hid.mk (HS1.out.kept hb8)
          have HDv8 := Hid.mk (HDv1.out.kept hb8)
          have HD8 := Hid.mk (isBytes_below HD1.out hb8)
          have HB8 := Hid.mk (bl2 HB1.out hb8)
          clear hb8
          go_wp2_with fail
          go_roundw
          case rel => exact ⟨k + 1, by omega, by go_num, ak, ck, dk, HDv8, HD8, by rw [HN.out]; exact HGk, HCk, HS8, HB8⟩
          case measure => simp [intOf]; omega
        | true =>
          have HY := Hid.mk (HYk.out (by rw [HOB.out, hke]; rfl))
          have HCC := Hid.mk (HCPk.out HNE.out (by first | rfl | trivial))
          go_wp2_with fail
          refine (HTH.out _ HS1.out.inn HD1.out).mono ?_
          rintro e w8 ⟨rfl, hb8⟩
          have HS8 := Hid.mk (HS1.out.kept hb8)
          have HDv8 := Hid.mk (HDv1.out.kept hb8)
          have HD8 := Hid.mk (isBytes_below HD1.out hb8)
          have HB8 := Hid.mk (bl2 HB1.out hb8)
          obtain ⟨v0, v1, v2, v3, v4, v5, v6, v7, v8⟩ := HSAT.out.kept hb8
          simp only at v0 v1 v2 v3 v4 v5 v6 v7 v8
          clear hb8
          go_wp2_with (go_at_fn 16; refine (HPk.out _ HS8.out.lv HS8.out.rd HDv8.out HD8.out).mono ?_; rintro e w9 ⟨rfl, hg9, a9, c9, hdv9, hb9⟩; have HG9 := Hid.mk hg9; have HDv9 := Hid.mk hdv9; have HD9 := Hid.mk hb9; clear hg9 hdv9 hb9)
          have HS9 := Hid.mk (HS8.out.dv HDv8.out HG9.out HNT.out HNX.out HNL.out)
          have HB9 := Hid.mk (HB8.out.grown HG9.out HB8.out.size (fun j hj => by cases hj; exact HGDL.out))
          go_roundw
          case rel =>
            refine ⟨k + 1, by omega, by go_num, a9, c9, PD.2, HDv9, by first | exact HD9 | (rw [← HPD.out]; exact HD9), ?_, ?_, HS9, HB9⟩
            · rw [HY.out]; exact HSN
            · exact Hid.mk (by first | (rw [HCC.out]; exact HCk.out) | (rw [← HPD.out, HCC.out]; exact HCk.out))
          case measure => simp [intOf]; omega
    · have e : k = tn := by omega
      subst e
      have hfin : BX = dk := by
        have h9 := HRES.out
        rw [HGk.out] at h9
        exact h9
      subst hfin
      obtain ⟨t0, t1, t2, t3, t4, t5⟩ := HS.out.ms
      obtain ⟨x0, x1, x2, x3, x4, x5⟩ := HS.out.x
      simp only at t0 t1 t2 t3 t4 t5 x0 x1 x2 x3 x4 x5
      have d0 := cell_of_row _ _ 0 _ _ _ HDv.out
      simp only [List.getElem?_toArray, List.getElem?_cons_zero] at d0
      have HQ := Hid.mk (HSF.out wr xa xc ak ck HS.out.xb HD.out)
      go_wp2_with fail
      refine HQ.out.mono ?_
      rintro e w9 ⟨rfl, hb9⟩
      have HB9 := Hid.mk (bl2 HB.out hb9)
      clear hb9
      go_wp2_with fail
      go_ret
      exact ⟨rfl, HB9.out⟩

end Bw
end Go.Proofs.YtjgliinpaadbnaaGreatDoor
namespace Go.Proofs.YtjgliinpaadbnaaGreatDoor
open Go.ChangeShapes Go.WideShapes Go.ChangeAt Go.RowKit Go.Sort
namespace Bw
open Sm
set_option maxHeartbeats 32000000 in
set_option maxRecDepth 100000 in
theorem repack_some (hCF : CheckFM) (v t : MsV) (id : Int) (lo fa re : Bool) (sz : Int) (a : Option Addr) (len cap : Nat) (dt : List UInt8) (w : World) (hM : MsIn w v) (hT : MsIn w t) (hS : SizesAt w) (hD : IsBytes w a len cap dt) (hE : chkM t.m = 0) (hR : readE v.m id lo fa re sz len = 0) (HCH : 0 ≤ t.m.ch) :
    Calls Tryz.prog 4 #[msV v, msV t, frameV id lo fa re sz a len cap] w fun e w' => e = .returned (.bool true) ∧ Below w.heap.size w w' := by
  have hO := chkM_ok hE
  obtain ⟨hOv, hFE, -, -, -⟩ := readE_ok hR
  have hCV : chkM v.m = 0 := by
    have h9 := hR
    unfold readE at h9
    split at h9
    · rename_i h1; exact absurd h9 h1
    · rename_i h1; exact Decidable.not_not.1 h1
  have hlm : len ≤ maxLen := Nat.le_trans hD.2.1 hD.2.2.1
  obtain ⟨n8, hn8⟩ : ∃ n8 : Nat, t.m.size = n8 := ⟨t.m.size.toNat, by have := hO.size0; omega⟩
  have hn88 : n8 ≤ 8 := by have := hO.size8; omega
  have HB0 := Hid.mk (rq_B w v t id lo fa re sz a len cap)
  have HA0 := Hid.mk (rq_v w v t id lo fa re sz a len cap)
  have HT0 := Hid.mk (rq_t w v t id lo fa re sz a len cap)
  have HF0 := Hid.mk (rq_f w v t id lo fa re sz a len cap)
  have HME := Hid.mk (fun W (h : Below w.heap.size w W) => meant_any W (hS.kept h))
  have hCT := fun W (h : Below w.heap.size w W) => checkMessage_any hCF t W (hT.kept h)
  have hCVc := fun W (h : Below w.heap.size w W) => checkMessage_any hCF v W (hM.kept h)
  have hFR := fun W => hCF id lo fa re sz a len cap W (by unfold maxLen at hlm; omega)
  rw [hE] at hCT
  rw [hCV] at hCVc
  rw [hFE] at hFR
  have HCT := Hid.mk hCT
  have HCV := Hid.mk hCVc
  have HFR := Hid.mk hFR
  have HRP := Hid.mk (fun W (h : Below w.heap.size w W) => mrepack_ok v t id lo fa re sz a len cap dt n8 W (hM.kept h) (hT.kept h) (hS.kept h) (isBytes_below hD h) hE hR hn8)
  obtain ⟨nR, hnR⟩ : ∃ nR, (readsD v.m dt).length = nR := ⟨_, rfl⟩
  have HRB := Hid.mk (fun W (h : Below w.heap.size w W) => rds_post hnR (readings_ok v id lo fa re sz a len cap dt W (hM.kept h) (isBytes_below hD h) hR))
  have hlen : t.m.sigs.length = t.n := hT.row.len
  have HITH := Hid.mk (fun k a c d W (hk : k < t.n) (hI : MsIn W t) (hB : IsBytes W a n8 c d) => isThereD_any t k a n8 c d W hI hB hO (by rw [hlen]; exact hk) hn8 (Nat.le_refl _) (by omega))
  have HTIN := Hid.mk (fun W (h : Below w.heap.size w W) => hT.kept h)
  have HNT2 := Hid.mk (reads_apart hOv dt)
  have HPUTA := Hid.mk (fun gl gd la lc k a c d W (hk : k < t.n) h1 h2 h3 h4 => dput_any (readsD v.m dt) (t.m.at k) gl gd la nR lc a n8 c d W h1 h2 h3 h4 HNT2.out (by rw [← hn8]; exact hO.sig (by rw [hlen]; exact hk)))
  have HSF := Hid.mk (fun W a1 c1 a2 c2 (h1 : IsBytes W a1 n8 c1 (fillE (putP (readsD v.m dt)) t.m).2) (h2 : IsBytes W a2 n8 c2 (fillE (putP (readsD v.m dt)) t.m).2) => sameFrame_true ⟨t.m.id, t.m.lo, false, false, 0, (fillE (putP (readsD v.m dt)) t.m).2⟩ a1 a2 n8 c1 n8 c2 W h1 h2)
  have HYES := Hid.mk (fun c k (h : othB t.m c k = true) => othK_yes t.m c h)
  have HNO := Hid.mk (fun c k (h : othB t.m c k = false) => othK_no t.m c h)
  have HOBD : Hid (∀ c k, othB t.m c k = (!((k : Int) == t.m.ch) && thB c (t.m.at k))) := Hid.mk (fun _ _ => rfl)
  have HOK0 : Hid (∀ c, othK t.m c 0 = []) := Hid.mk (fun _ => rfl)
  have HGD : Hid (∀ i, t.m.at i = t.m.sigs.getD i noS) := Hid.mk (fun _ => rfl)
  have HCPA := Hid.mk (fun c k (d : List UInt8) (hk : k < t.n) (h1 : (k : Int) ≠ t.m.ch) (h2 : thB c (t.m.at k) = true) (hd : d.length = n8) => cho_put hO hn8 (readsD v.m dt) (c := c) (by rw [hlen]; exact hk) h1 h2 hd)
  have HZERO := Hid.mk (fun k d => putP_zero (readsD v.m dt) (t.m.at k) d)
  have hz0 : zerosM t.m = List.replicate n8 0 := by unfold zerosM; rw [hn8]; rfl
  have hmk : ∀ W : World, (Instr.makeSlice 26 (.int .i64 (n8 : Int)) (.int .i64 (n8 : Int))).run Tryz.prog W = .ok (.slice (some ⟨W.heap.size, 0, none⟩) n8 n8) (W.alloc (.cells (madeCells #[.int .u8 0] n8) 5)) := by
    intro W
    exact run_make_row' 26 5 (.int .u8 0) 1 Tryz.underlying26 info_u8M rfl .i64 .i64 n8 (by omega) (by omega) W
  have hn16 : t.n ≤ 16 := by have := hO.many; omega
  obtain ⟨k0, hk0⟩ : ∃ k0 : Nat, t.m.ch = k0 := ⟨t.m.ch.toNat, by omega⟩
  have hk0n : k0 < t.n := by have := hO.ch1; omega
  have hCE : chooE (putP (readsD v.m dt)) t.m = putP (readsD v.m dt) (t.m.at k0) (List.replicate n8 0) := by unfold chooE; rw [if_pos HCH, hz0, hk0, Int.toNat_natCast]
  have HRESA : Hid ((fillE (putP (readsD v.m dt)) t.m).2 = (goE (putP (readsD v.m dt)) (othK t.m (choD t.m (putP (readsD v.m dt) (t.m.at k0) (List.replicate n8 0)).2) t.n) (putP (readsD v.m dt) (t.m.at k0) (List.replicate n8 0)).2).2) := Hid.mk (by unfold fillE; rw [hCE, if_pos (putP_zero _ _ _), hlen])
  clear hCE
  clear hM hT hS hD hE hR hO hOv hFE hCV hlm hCT hCVc hFR hnR hlen hz0 hCF HNT2
  generalize (fillE (putP (readsD v.m dt)) t.m).2 = BX at *
  generalize readsD v.m dt = RL at *
  generalize hOK : othK t.m = OK at *
  generalize hOB : othB t.m = OB at *
  generalize hCD : choD t.m = CD at *
  generalize hSS : t.m.at = S at *
  clear hOK hOB hCD hSS
  obtain ⟨⟨mid, mlo, mnm, size, mch, sigs⟩, ma, mn, mcap⟩ := v
  obtain ⟨⟨tid, tlo, tnm, tsize, tch, tsigs⟩, ta, tn, tcap⟩ := t
  simp only at hn8 HCH hk0 hk0n
  subst hn8
  subst hk0
  unfold rqW msC frameC at HB0 HA0 HT0 HF0
  unfold msV at HCT HCV HRP HRB
  unfold msV
  unfold frameV at HFR HRP HRB HSF ⊢
  simp only at HB0 HA0 HT0 HF0 HCT HCV HRP HRB HFR HITH HTIN HPUTA HSF HOBD HGD HCPA hn16 ⊢
  obtain ⟨m0, m1, m2, m3, m4, m5⟩ := HA0.out
  obtain ⟨t0, t1, t2, t3, t4, t5⟩ := HT0.out
  obtain ⟨c0, c1, c2, c3, c4, c5⟩ := HF0.out
  simp only at m0 m1 m2 m3 m4 m5 t0 t1 t2 t3 t4 t5
  have hent := enter_dput
  go_enter Tryz.func4, Tryz.ntmps4
  go_wp2_with fail
  refine (HRP.out _ HB0.out).mono ?_
  rintro e w1 ⟨hb1, hcase⟩
  rcases hcase with ⟨hne, _⟩ | ⟨_, xa, xc, rfl, hX1⟩
  · exact absurd rfl hne
  have HX := Hid.mk (awB1 w1 (.cells #[.int .i64 tid, .bool tlo, .bool false, .bool false, .int .i64 0, .slice xa n8 xc] 28))
  have HB1 := Hid.mk (bl2 HB0.out (bl2 hb1 HX.out))
  have HA1 := Hid.mk ((HA0.out.kept hb1).kept HX.out)
  have HT1 := Hid.mk ((HT0.out.kept hb1).kept HX.out)
  have HF1 := Hid.mk ((HF0.out.kept hb1).kept HX.out)
  have HX1 := Hid.mk (xv_new w1 tid tlo xa n8 xc)
  have HXB1 := Hid.mk (isBytes_below hX1 HX.out)
  obtain ⟨t0, t1, t2, t3, t4, t5⟩ := HT1.out
  simp only at t0 t1 t2 t3 t4 t5
  unfold frameV
  clear hb1 hX1 HRP m0 m1 m2 m3 m4 m5 c0 c1 c2 c3 c4 c5
  go_wp2_with fail
  refine (HCT.out _ HB1.out).mono ?_
  rintro e w2 ⟨rfl, hb2⟩
  have HB2 := Hid.mk (bl2 HB1.out hb2)
  have HA2 := Hid.mk (HA1.out.kept hb2)
  obtain ⟨m0, m1, m2, m3, m4, m5⟩ := HA2.out
  simp only at m0 m1 m2 m3 m4 m5
  go_wp2_with fail
  refine (HCV.out _ HB2.out).mono ?_
  rintro e w3 ⟨rfl, hb3⟩
  have HB3 := Hid.mk (bl2 HB2.out hb3)
  have hb23 := bl2 hb2 hb3
  have HF3 := Hid.mk (HF1.out.kept hb23)
  obtain ⟨c0, c1, c2, c3, c4, c5⟩ := HF3.out
  clear m0 m1 m2 m3 m4 m5
  go_wp2_with fail
  refine (HFR.out _).mono ?_
  rintro e w4 ⟨rfl, hb4⟩
  have hb24 := bl2 hb23 hb4
  have HAL := Hid.mk (awB1 w4 (.cells #[.slice none 0 0] 25))
  have hb25 := bl2 hb24 HAL.out
  have HB4 := Hid.mk (bl2 HB1.out hb25)
  have HA4 := Hid.mk (HA1.out.kept hb25)
  have HF4 := Hid.mk (HF1.out.kept hb25)
  have HT4 := Hid.mk (HT1.out.kept hb25)
  have HX4 := Hid.mk (HX1.out.kept hb25)
  have HXB4 := Hid.mk (isBytes_below HXB1.out hb25)
  have HSZ4 : Hid (w.heap.size ≤ w4.heap.size) := Hid.mk (bl2 HB1.out hb24).size
  have HLT4 : Hid (w1.heap.size < w4.heap.size ∧ w.heap.size + 1 < w4.heap.size) := Hid.mk ⟨by
    have h1 := block_lt_of_cell ((HX1.out.kept hb24).c0)
    exact h1, by
    have h1 := block_lt_of_cell ((HT1.out.kept hb24).c0)
    exact h1⟩
  have HLV := Hid.mk (heap_alloc_new w4 (.cells #[.slice none 0 0] 25))
  obtain ⟨m0, m1, m2, m3, m4, m5⟩ := HA4.out
  obtain ⟨d0, d1, d2, d3, d4, d5⟩ := HF4.out
  simp only at m0 m1 m2 m3 m4 m5
  clear hb2 hb3 hb4 hb23 hb24 hb25 c0 c1 c2 c3 c4 c5
  go_wp2_with fail
  refine (HRB.out _ HB4.out).mono ?_
  rintro e w5 ⟨la, lc, rfl, hR5, hb5⟩
  have hlt : w4.heap.size < (w4.alloc (.cells #[.slice none 0 0] 25)).heap.size := by simp
  have hrow5 := (hb5.block _ hlt).trans HLV.out
  have q0 := cell_of_row _ _ 0 _ _ _ hrow5
  have f0 := frozen_of_row _ _ 0 _ _ hrow5
  simp only [List.getElem?_toArray, List.getElem?_cons_zero] at q0
  have hg5 : w5.grownBy (w5.setCell ⟨w4.heap.size, 0, none⟩ (.slice la nR lc)) (some w4.heap.size) := ⟨rfl, rfl, rfl, by simp, fun k _ hk => heap_setCell_other w5 ⟨w4.heap.size, 0, none⟩ k _ (fun e => hk (by rw [e]))⟩
  have hlv5 := heap_setCell_same w5 w4.heap.size 0 _ _ (.slice la nR lc) hrow5
  obtain ⟨W5, hW5⟩ : ∃ W5, W5 = w5.setCell ⟨w4.heap.size, 0, none⟩ (.slice la nR lc) := ⟨_, rfl⟩
  have HB5 := Hid.mk ((bl2 HB4.out hb5).setCell (p := ⟨w4.heap.size, 0, none⟩) HSZ4.out (.slice la nR lc))
  have HT5 := Hid.mk ((HT4.out.kept hb5).blk (w' := W5) (by rw [hW5]; exact heap_setCell_other w5 ⟨w4.heap.size, 0, none⟩ (w.heap.size + 1) _ (fun e => by have := HLT4.out.2; have h3 : (⟨w4.heap.size, 0, none⟩ : Addr).block = w4.heap.size := rfl; omega)))
  have HX5 := Hid.mk ((HX4.out.kept hb5).blk (w' := W5) (by rw [hW5]; exact heap_setCell_other w5 ⟨w4.heap.size, 0, none⟩ w1.heap.size _ (fun e => by have := HLT4.out.1; have h3 : (⟨w4.heap.size, 0, none⟩ : Addr).block = w4.heap.size := rfl; omega)))
  rw [← hW5] at hg5 hlv5 HB5
  have HXB5 := Hid.mk (oc_bytes hrow5 hg5 (isBytes_below HXB4.out hb5))
  have HR5 := Hid.mk (oc_rds hrow5 hg5 hR5)
  have HLV5 : Hid (W5.cell? ⟨w4.heap.size, 0, none⟩ = some (.slice la nR lc)) := Hid.mk (cell_of_row _ _ 0 _ _ _ hlv5)
  have HW5 := Hid.mk hW5
  clear hb5 hlt hrow5 hg5 hlv5 hW5 hR5 m0 m1 m2 m3 m4 m5 d0 d1 d2 d3 d4 d5 t0 t1 t2 t3 t4 t5
  go_wp2_with fail
  rw [← HW5.out]
  refine (HME.out _ HB5.out).mono ?_
  rintro e w6 ⟨rfl, hb6⟩
  have HB6 := Hid.mk (bl2 HB5.out hb6)
  have HT6 := Hid.mk (HT5.out.kept hb6)
  obtain ⟨t0, t1, t2, t3, t4, t5⟩ := HT6.out
  simp only at t0 t1 t2 t3 t4 t5
  have hAZ := awB1 w6 (.cells (madeCells #[.int .u8 0] n8) 5)
  have hAV := awB1 (w6.alloc (.cells (madeCells #[.int .u8 0] n8) 5)) (.cells #[.slice (some ⟨w6.heap.size, 0, none⟩) n8 n8] 26)
  have hb67 := bl2 hb6 (bl2 hAZ hAV)
  have HB7 := Hid.mk (bl2 HB5.out hb67)
  have HS7 := Hid.mk (show RpS _ ⟨⟨tid, tlo, tnm, (n8 : Int), (k0 : Int), tsigs⟩, ta, tn, tcap⟩ (w.heap.size + 1) w1.heap.size w4.heap.size xa n8 xc BX la nR lc RL from ⟨HT5.out.kept hb67, HTIN.out _ HB7.out, HX5.out.kept hb67, isBytes_below HXB5.out hb67, cell_kept hb67 HLV5.out, HR5.out.kept hb67⟩)
  have HDv7 : Hid (DvAt ((w6.alloc (.cells (madeCells #[.int .u8 0] n8) 5)).alloc (.cells #[.slice (some ⟨w6.heap.size, 0, none⟩) n8 n8] 26)) (w6.heap.size + 1) (some ⟨w6.heap.size, 0, none⟩) n8 n8) := Hid.mk (by
    have := heap_alloc_new (w6.alloc (.cells (madeCells #[.int .u8 0] n8) 5)) (.cells #[.slice (some ⟨w6.heap.size, 0, none⟩) n8 n8] 26)
    rw [show (w6.alloc (.cells (madeCells #[.int .u8 0] n8) 5)).heap.size = w6.heap.size + 1 by simp] at this
    exact this)
  have HD7 := Hid.mk (isBytes_below (zeros_at w6 n8 (by omega)) hAV)
  have hlt6 := block_lt_of_cell HLV5.out
  have hlt6' : w4.heap.size < W5.heap.size := hlt6
  have hs6 := hb6.size
  have HNT : Hid (w.heap.size + 1 ≠ w6.heap.size + 1) := Hid.mk (by have := HLT4.out.2; omega)
  have HNX : Hid (w1.heap.size ≠ w6.heap.size + 1) := Hid.mk (by have := HLT4.out.1; omega)
  have HNL : Hid (w4.heap.size ≠ w6.heap.size + 1) := Hid.mk (by omega)
  have HGDL : Hid (w.heap.size ≤ w6.heap.size + 1) := Hid.mk (by have := HLT4.out.2; omega)
  obtain ⟨o0, o1, o2, o3, o4, o5⟩ := HS7.out.ms
  simp only at o0 o1 o2 o3 o4 o5
  clear hb6 hAZ hAV hb67 hlt6 hlt6' hs6
  obtain ⟨DA, hDA⟩ : ∃ D, D = (putP RL (S k0) (List.replicate n8 0)).2 := ⟨_, rfl⟩
  rw [← hDA] at HRESA
  obtain ⟨CHO, hCHO⟩ : ∃ c, c = CD DA := ⟨_, rfl⟩
  have HCHO := Hid.mk hCHO
  rw [← hCHO] at HRESA
  have HRES := HRESA
  have HPUT := Hid.mk (fun k a c d W (hk : k < tn) h1 h2 h3 h4 => HPUTA.out w4.heap.size (w6.heap.size + 1) la lc k a c d W hk h1 h2 h3 h4)
  have HCP := Hid.mk (fun k d (hk : k < tn) h1 h2 hd => HCPA.out CHO k d hk h1 h2 hd)
  have hP0 := HPUT.out k0 _ _ _ _ hk0n HS7.out.lv HS7.out.rd HDv7.out HD7.out
  rw [← hDA] at hP0
  have HP0 := Hid.mk hP0
  obtain ⟨x0, hx0⟩ := HS7.out.inn.row.some hk0n
  cases hx0
  have hSc := HS7.out.inn.row.at hk0n
  rw [← HGD.out] at hSc
  have HSC : Hid (∃ y, y = S k0) := Hid.mk ⟨_, rfl⟩
  obtain ⟨sc, hsc⟩ := HSC.out
  rw [← hsc] at hSc HP0
  clear hsc HSC hDA hCHO HPUTA HCPA HRESA hP0
  obtain ⟨nm0, st0, sz0, bk0, sg0, mu0, di0, ad0, ky0⟩ := sc
  unfold sgV at HP0
  simp only at HP0
  obtain ⟨z0, z1, z2, z3, z4, z5, z6, z7, z8⟩ := hSc
  simp only at z0 z1 z2 z3 z4 z5 z6 z7 z8
  have hcc : (k0 : Int) < (tn : Int) := by omega
  have hcc0 : (0 : Int) ≤ (k0 : Int) := by omega
  go_wp2_with (go_at_fn 16; refine HP0.out.mono ?_; rintro e w7 ⟨rfl, hg7, a7, c7, hdv7, hbb7⟩; have HG7 := Hid.mk hg7; have HDv8s := Hid.mk hdv7; have HD8s := Hid.mk hbb7; have HS8s := Hid.mk (HS7.out.dv HDv7.out hg7 HNT.out HNX.out HNL.out); obtain ⟨o0, o1, o2, o3, o4, o5⟩ := HS8s.out.ms; clear hg7 hdv7 hbb7; simp only at o0 o1 o2 o3 o4 o5)
  have HB8s := Hid.mk (HB7.out.grown HG7.out HB7.out.size (fun j hj => by cases hj; exact HGDL.out))
  go_loopw [74] (fun i wr => ∃ k : Nat, k ≤ tn ∧ i = .int .i64 k ∧ ∃ a c dk, Hid (DvAt wr (w6.heap.size + 1) a n8 c) ∧ Hid (IsBytes wr a n8 c dk) ∧ Hid (goE (putP RL) (OK CHO k) DA = (0, dk)) ∧ Hid (CD dk = CHO) ∧ Hid (RpS wr ⟨⟨tid, tlo, tnm, (n8 : Int), (k0 : Int), tsigs⟩, some x0, tn, tcap⟩ (w.heap.size + 1) w1.heap.size w4.heap.size xa n8 xc BX la nR lc RL) ∧ Hid (Below w.heap.size w wr)) (fun i _ => tn - (intOf i).toNat)
  case atStart => exact ⟨0, Nat.zero_le _, rfl, a7, c7, DA, HDv8s, HD8s, Hid.mk (by rw [HOK0.out]; rfl), Hid.mk HCHO.out.symm, HS8s, HB8s⟩
  case round =>
    obtain ⟨k, hk, rfl, ak, ck, dk, HDv, HD, HGk, HCk, HS, HB⟩ := hrel
    by_cases hlt : k < tn
    · have hlt' : (k : Int) < (tn : Int) := by omega
      obtain ⟨x, hx⟩ := HS.out.inn.row.some hlt
      cases hx
      have hSg := HS.out.inn.row.at hlt
      rw [← HGD.out] at hSg
      have HBX1 := Hid.mk (sg_box wr (S k))
      have HSAT := Hid.mk (SgAt.box wr (S k))
      have hTHk := fun W (hI : MsIn W _) (hB : IsBytes W ak n8 ck dk) => HITH.out k ak ck dk W hlt hI hB
      rw [HCk.out] at hTHk
      have HTH := Hid.mk hTHk
      clear hTHk
      have HPk := Hid.mk (fun W h1 h2 h3 h4 => HPUT.out k ak ck dk W hlt h1 h2 h3 h4)
      have HYk := Hid.mk (HYES.out CHO k)
      have HNk := Hid.mk (HNO.out CHO k)
      have HOB : Hid (OB CHO k = (!((k : Int) == (k0 : Int)) && thB CHO (S k))) := Hid.mk (HOBD.out CHO k)
      have HCPk := Hid.mk (fun h1 h2 => HCP.out k dk hlt h1 h2 HD.out.1)
      have HPZ := Hid.mk (HZERO.out k dk)
      have HS1 := Hid.mk (HS.out.kept HBX1.out)
      have HDv1 := Hid.mk (HDv.out.kept HBX1.out)
      have HD1 := Hid.mk (isBytes_below HD.out HBX1.out)
      have HB1 := Hid.mk (bl2 HB.out HBX1.out)
      have HSK : Hid (∃ y, y = S k) := Hid.mk ⟨_, rfl⟩
      obtain ⟨sk, hsk⟩ := HSK.out
      rw [← hsk] at hSg
      simp only [← hsk] at HBX1 HSAT HTH HPk HYk HOB HCPk HPZ HS1 HDv1 HD1 HB1
      clear hsk HSK
      generalize thB CHO sk = TH at *
      generalize hput : putP RL sk dk = PD at *
      have HPD := Hid.mk hput
      clear hput
      have HSN : Hid (goE (putP RL) (OK CHO k ++ [sk]) DA = (0, PD.2)) := Hid.mk (by rw [goE_snoc HGk.out (by rw [HPD.out]; exact HPZ.out), HPD.out])
      obtain ⟨nm, st, sz, bk, sg, mu, di, ad, ky⟩ := sk
      unfold sgC at HBX1 HSAT HS1 HDv1 HD1 HB1
      unfold sgV at HTH HPk
      unfold msV at HTH
      simp only at HBX1 HSAT HTH HPk HYk HS1 HDv1 HD1 HB1 HSN
      obtain ⟨s0, s1, s2, s3, s4, s5, s6, s7, s8⟩ := hSg
      simp only at s0 s1 s2 s3 s4 s5 s6 s7 s8
      obtain ⟨v0, v1, v2, v3, v4, v5, v6, v7, v8⟩ := HSAT.out
      simp only at v0 v1 v2 v3 v4 v5 v6 v7 v8
      obtain ⟨t0, t1, t2, t3, t4, t5⟩ := HS1.out.ms
      simp only at t0 t1 t2 t3 t4 t5
      have d0 := cell_of_row _ _ 0 _ _ _ HDv1.out
      simp only [List.getElem?_toArray, List.getElem?_cons_zero] at d0
      by_cases hkc : (k : Int) = (k0 : Int)
      · have HN := Hid.mk (HNk.out (by rw [HOB.out, hkc]; simp))
        have hke : ((k : Int) == (k0 : Int)) = true := by rw [hkc]; simp
        have hke2 : ((k : Int) != (k0 : Int)) = false := by rw [bne, hke]; rfl
        clear hkc
        go_wp2_with fail
        go_roundw
        case rel => exact ⟨k + 1, by omega, by go_num, ak, ck, dk, HDv1, HD1, by rw [HN.out]; exact HGk, HCk, HS1, HB1⟩
        case measure => simp [intOf]; omega
      · have hke : ((k : Int) == (k0 : Int)) = false := beq_false_of_ne hkc
        have HNE := Hid.mk hkc
        clear hkc
        cases TH with
        | false =>
          have HN := Hid.mk (HNk.out (by rw [HOB.out]; simp))
          go_wp2_with fail
          refine (HTH.out _ HS1.out.inn HD1.out).mono ?_
          rintro e w8 ⟨rfl, hb8⟩
          have HS8 := Hid.mk (HS1.out.kept hb8)
          have HDv8 := Hid.mk (HDv1.out.kept hb8)
          have HD8 := Hid.mk (isBytes_below HD1.out hb8)
          have HB8 := Hid.mk (bl2 HB1.out hb8)
          clear hb8
          go_wp2_with fail
          go_roundw
          case rel => exact ⟨k + 1, by omega, by go_num, ak, ck, dk, HDv8, HD8, by rw [HN.out]; exact HGk, HCk, HS8, HB8⟩
          case measure => simp [intOf]; omega
        | true =>
          have HY := Hid.mk (HYk.out (by rw [HOB.out, hke]; rfl))
          have HCC := Hid.mk (HCPk.out HNE.out (by first | rfl | trivial))
          go_wp2_with fail
          refine (HTH.out _ HS1.out.inn HD1.out).mono ?_
          rintro e w8 ⟨rfl, hb8⟩
          have HS8 := Hid.mk (HS1.out.kept hb8)
          have HDv8 := Hid.mk (HDv1.out.kept hb8)
          have HD8 := Hid.mk (isBytes_below HD1.out hb8)
          have HB8 := Hid.mk (bl2 HB1.out hb8)
          obtain ⟨v0, v1, v2, v3, v4, v5, v6, v7, v8⟩ := HSAT.out.kept hb8
          simp only at v0 v1 v2 v3 v4 v5 v6 v7 v8
          clear hb8
          go_wp2_with (go_at_fn 16; refine (HPk.out _ HS8.out.lv HS8.out.rd HDv8.out HD8.out).mono ?_; rintro e w9 ⟨rfl, hg9, a9, c9, hdv9, hb9⟩; have HG9 := Hid.mk hg9; have HDv9 := Hid.mk hdv9; have HD9 := Hid.mk hb9; clear hg9 hdv9 hb9)
          have HS9 := Hid.mk (HS8.out.dv HDv8.out HG9.out HNT.out HNX.out HNL.out)
          have HB9 := Hid.mk (HB8.out.grown HG9.out HB8.out.size (fun j hj => by cases hj; exact HGDL.out))
          go_roundw
          case rel =>
            refine ⟨k + 1, by omega, by go_num, a9, c9, PD.2, HDv9, by first | exact HD9 | (rw [← HPD.out]; exact HD9), ?_, ?_, HS9, HB9⟩
            · rw [HY.out]; exact HSN
            · exact Hid.mk (by first | (rw [HCC.out]; exact HCk.out) | (rw [← HPD.out, HCC.out]; exact HCk.out))
          case measure => simp [intOf]; omega
    · have e : k = tn := by omega
      subst e
      have hfin : BX = dk := by
        have h9 := HRES.out
        rw [HGk.out] at h9
        exact h9
      subst hfin
      obtain ⟨t0, t1, t2, t3, t4, t5⟩ := HS.out.ms
      obtain ⟨x0, x1, x2, x3, x4, x5⟩ := HS.out.x
      simp only at t0 t1 t2 t3 t4 t5 x0 x1 x2 x3 x4 x5
      have d0 := cell_of_row _ _ 0 _ _ _ HDv.out
      simp only [List.getElem?_toArray, List.getElem?_cons_zero] at d0
      have HQ := Hid.mk (HSF.out wr xa xc ak ck HS.out.xb HD.out)
      go_wp2_with fail
      refine HQ.out.mono ?_
      rintro e w9 ⟨rfl, hb9⟩
      have HB9 := Hid.mk (bl2 HB.out hb9)
      clear hb9
      go_wp2_with fail
      go_ret
      exact ⟨rfl, HB9.out⟩

end Bw
end Go.Proofs.YtjgliinpaadbnaaGreatDoor
namespace Go.Proofs.YtjgliinpaadbnaaGreatDoor
open Go.ChangeShapes Go.WideShapes Go.ChangeAt Go.RowKit
namespace messageRepack
open Bw
theorem walk (v t : MsV) (id : Int) (lo fa re : Bool) (sz : Int) (a : Option Addr) (len cap : Nat) (zs : List Int) (w : World) (hM : MsIn w v) (hT : MsIn w t) (_ : (Lit.int .i64 id).wf = true) (_ : (Lit.int .i64 sz).wf = true) (hR : IsRow .u8 w a len cap zs) (hL : laidMet Tryz.prog Rows.messageRepackRow.laid w) :
    Calls Tryz.prog 4 #[msV v, msV t, frameV id lo fa re sz a len cap] w fun e w' => e = .returned (.bool true) ∧ Below w.heap.size w w' := by
  obtain ⟨dt, hD⟩ := isBytes_of_row hR
  have hS := sizes_of hL (by simp [Rows.messageRepackRow])
  by_cases hE : repE v.m t.m id lo fa re sz len = 0
  · have h1 : chkM t.m = 0 := by
      unfold repE at hE
      split at hE
      · rename_i h; exact absurd hE h
      · rename_i h; exact Decidable.not_not.1 h
    have h2 : readE v.m id lo fa re sz len = 0 := by
      unfold repE at hE
      rw [if_neg (by rw [h1]; simp)] at hE
      exact hE
    by_cases hc : 0 ≤ t.m.ch
    · exact repack_some checkFrame_any v t id lo fa re sz a len cap dt w hM hT hS hD h1 h2 hc
    · exact repack_none checkFrame_any v t id lo fa re sz a len cap dt w hM hT hS hD h1 h2 (by omega)
  · exact repack_bad checkFrame_any v t id lo fa re sz a len cap w hM hT hS (Nat.le_trans hD.2.1 hD.2.2.1) hE
end messageRepack
end Go.Proofs.YtjgliinpaadbnaaGreatDoor
