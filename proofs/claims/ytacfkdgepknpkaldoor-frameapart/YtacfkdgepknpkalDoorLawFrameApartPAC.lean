/- Joined out of our texts: FrRead4, StepMath, CheckNext, CheckOf, CheckSm, FrRead5, IdxMath, FrSmall, FrBit, FrRead6, FrRead7, ShelfCnt, FrCount, StuffFixed. -/
import Derived.Test.YtacfkdgepknpkalDoorLawFrameApartPAB
import Derived.Test.YtacfkdgepknpkalDoorLawFrameApartPAA
import Derived.Deep.RegionWith
import Derived.Shelf.Strings.Count
import Derived.Test.YtacfkdgepknpkalDoorProg
/- What the reader's methods readName and readForm do. -/
namespace Go.Proofs.YtacfkdgepknpkalDoor
open Go.ChangeShapes Go.WideShapes Go.ChangeAt Go.RowKit
namespace Bw
open Bm Cm Go.Sort

theorem is_one {T : ByteArray} {t : List UInt8} (hT : T.data.toList = t) : (T.toList == [49]) = decide (t = [49]) := by
  rw [ByteArray.toList_eq, hT, Bool.eq_iff_iff, beq_iff_eq, decide_eq_true_iff]
theorem is_yes {T : ByteArray} {t : List UInt8} (hT : T.data.toList = t) (h : t = [49]) : (T.toList == [49]) = true ∧ (T.toList != [49]) = false ∧ T.toList = [49] := by
  have h1 : (T.toList == [49]) = true := by rw [is_one hT]; simp [h]
  exact ⟨h1, by rw [bne, h1]; rfl, by simpa using h1⟩
theorem is_no {T : ByteArray} {t : List UInt8} (hT : T.data.toList = t) (h : ¬ t = [49]) : (T.toList == [49]) = false ∧ (T.toList != [49]) = true ∧ ¬ T.toList = [49] := by
  have h1 : (T.toList == [49]) = false := by rw [is_one hT]; simp [h]
  exact ⟨h1, by rw [bne, h1]; rfl, by simpa using h1⟩
theorem or_shift (n m : Nat) (hn : n < 2 ^ 11) (hm : m < 2 ^ 18) : bits .or .i64 (IntKind.i64.wrap ((n : Int) * 262144)) (m : Int) = ((n * 262144 + m : Nat) : Int) := by
  have e : IntKind.i64.wrap ((n : Int) * 262144) = (n : Int) * 262144 := by rw [IntKind.wrap_i64]; omega
  rw [e, bits_join .i64 63 (by decide) (fun n h0 h1 => by rw [IntKind.wrap_i64]; omega) 18 _ _ (by omega) (by omega) (by omega) (by omega) (by omega) (by omega)]
  omega

set_option maxHeartbeats 8000000 in
theorem readName_any (g : Nat) (b : ByteArray) (S : RS) (F : Fd) (n : Nat) (w : World) (h : RdAt w g b S F) (hc : checkE b.data.toList = 0) (hi : Inv b.data.toList S n) (hn : n ≤ 800) :
    Calls Tryd.prog 33 #[.pointer (some ⟨g, 0, none⟩)] w fun e w' =>
      e = .returned (.tuple #[]) ∧ RdAt w' g b (nameP b.data.toList S).S ⟨(nameP b.data.toList S).id, (nameP b.data.toList S).lo, F.fa, (nameP b.data.toList S).re, F.sz, F.d⟩ ∧ Tch [g] w w' := by
  have hrow := (small_of_check hc).2
  have i1 : Inv b.data.toList (nm1 b.data.toList S) (n + 1) := Inv.want hrow [48] hi
  have i2 : Inv b.data.toList (nmN b.data.toList S).2 (n + 1 + 11) := i1.num hrow 11
  have i3 : Inv b.data.toList (nmF b.data.toList S).2 (n + 1 + 11 + 1) := i2.take hrow 1
  have i4 : Inv b.data.toList (nmL b.data.toList S).2 (n + 1 + 11 + 1 + 1) := i3.take hrow 1
  have i5 : Inv b.data.toList (nm5 b.data.toList S) (n + 1 + 11 + 1 + 1) := by unfold nm5; split; exact i4; exact i4.fail 4
  have i6 : Inv b.data.toList (nmM b.data.toList S).2 (n + 1 + 11 + 1 + 1 + 18) := i5.num hrow 18
  have a1 : ∀ (W : World) (F : Fd), RdAt W g b S F → _ := fun W F hW => want_any g b ⟨#[48]⟩ S F n W hW hc hi (by show n + 1 ≤ 1000; omega)
  have a2 : ∀ (W : World) (F : Fd), RdAt W g b (nm1 b.data.toList S) F → _ := fun W F hW => numb_any g 11 b _ F W hW hc (by have := i1.n; omega) (by omega)
  have a3 : ∀ (W : World) (F : Fd), RdAt W g b (nmN b.data.toList S).2 F → _ := fun W F hW => take_any g 1 b _ F W hW hc (by have := i2.n; omega)
  have a4 : ∀ (W : World) (F : Fd), RdAt W g b (nmF b.data.toList S).2 F → _ := fun W F hW => take_any g 1 b _ F W hW hc (by have := i3.n; omega)
  have a5 : ∀ (W : World) (F : Fd), RdAt W g b (nmL b.data.toList S).2 F → _ := fun W F hW => fail_any g b _ F 4 W hW
  have a6 : ∀ (W : World) (F : Fd), RdAt W g b (nm5 b.data.toList S) F → _ := fun W F hW => numb_any g 18 b _ F W hW hc (by have := i5.n; omega) (by omega)
  have a7 : ∀ (W : World) (F : Fd), RdAt W g b (nmM b.data.toList S).2 F → _ := fun W F hW => take_any g 1 b _ F W hW hc (by have := i6.n; omega)
  have q2 : numP b.data.toList (nm1 b.data.toList S) 11 = nmN b.data.toList S := rfl
  have q3 : takeP b.data.toList (nmN b.data.toList S).2 1 = nmF b.data.toList S := rfl
  have q4 : takeP b.data.toList (nmF b.data.toList S).2 1 = nmL b.data.toList S := rfl
  have q6 : numP b.data.toList (nm5 b.data.toList S) 18 = nmM b.data.toList S := rfl
  have q7 : takeP b.data.toList (nmM b.data.toList S).2 1 = nmR b.data.toList S := rfl
  have q1 : wantP b.data.toList S (ByteArray.mk #[48]).data.toList = nm1 b.data.toList S := rfl
  have b2 := numP_lt b.data.toList hrow (nm1 b.data.toList S) 11
  have b6 := numP_lt b.data.toList hrow (nm5 b.data.toList S) 18
  rw [q1] at a1
  rw [q2] at a2 b2
  rw [q3] at a3
  rw [q4] at a4
  rw [q6] at a6 b6
  rw [q7] at a7
  have q5 : nm5 b.data.toList S = if (nmF b.data.toList S).1 = [49] then (nmL b.data.toList S).2 else failP (nmL b.data.toList S).2 4 := rfl
  unfold nameP
  generalize nm1 b.data.toList S = S1 at *
  generalize nmN b.data.toList S = NN at *
  generalize nmF b.data.toList S = FF at *
  generalize nmL b.data.toList S = LL at *
  generalize nm5 b.data.toList S = S5 at *
  generalize nmM b.data.toList S = MM at *
  generalize nmR b.data.toList S = RR at *
  obtain ⟨N, S2⟩ := NN
  obtain ⟨tF, S3⟩ := FF
  obtain ⟨tL, S4⟩ := LL
  obtain ⟨M, S6⟩ := MM
  obtain ⟨tR, S7⟩ := RR
  simp only at a2 a3 a4 a5 a6 a7 b2 b6 q5 ⊢
  have lF := mk_list tF
  have lL := mk_list tL
  have lR := mk_list tR
  generalize ByteArray.mk tF.toArray = TF at *
  generalize ByteArray.mk tL.toArray = TL at *
  generalize ByteArray.mk tR.toArray = TR at *
  have HA1 := Hid.mk a1
  have HA2 := Hid.mk a2
  have HA3 := Hid.mk a3
  have HA4 := Hid.mk a4
  have HA5 := Hid.mk a5
  have HA6 := Hid.mk a6
  have HA7 := Hid.mk a7
  have HB2 := Hid.mk b2
  have HB6 := Hid.mk b6
  have H := Hid.mk h
  have HLF := Hid.mk lF
  have HLR := Hid.mk lR
  have HQ5 := Hid.mk q5
  have N11 : (N : Int) ≤ 2047 := by omega
  have M18 : (M : Int) ≤ 262143 := by omega
  clear a1 a2 a3 a4 a5 a6 a7 b2 b6 h lF lR q1 q2 q3 q4 q5 q6 q7 i1 i2 i3 i4 i5 i6 hi hc hrow hn
  by_cases hL : tL = [49]
  · rw [if_pos hL]
    obtain ⟨y1, y2, y3⟩ := is_yes lL hL
    clear lL hL
    by_cases hF : tF = [49]
    · obtain ⟨x1, x2, x3⟩ := is_yes HLF.out hF
      have e5 := HQ5.out
      rw [if_pos hF] at e5
      subst e5
      clear hF
      go_enter Tryd.func33, Tryd.ntmps33
      go_wp2_with fail
      refine (HA1.out _ _ H.out).mono ?_
      rintro e w1 ⟨rfl, h1, t1⟩
      have H1 := Hid.mk h1
      clear h1 H HA1
      go_wp2_with fail
      refine (HA2.out _ _ H1.out).mono ?_
      rintro e w2 ⟨rfl, h2, t2⟩
      have t12 := t1.trans t2
      have k4 := h2.c4
      have z4 := h2.z 4
      have H2 := Hid.mk (h2.setId N)
      have T2 := Hid.mk (t12.setK (g := g) (by simp) 4 (.int .i64 N))
      clear h2 t1 t2 t12 H1 HA2
      go_wp2_with fail
      refine (HA3.out _ _ H2.out).mono ?_
      rintro e w3 ⟨rfl, h3, t3⟩
      have H3 := Hid.mk h3
      have T3 := Hid.mk (T2.out.trans t3)
      clear h3 t3 k4 z4 H2 T2 HA3
      go_wp2_with fail
      refine (HA4.out _ _ H3.out).mono ?_
      rintro e w4 ⟨rfl, h4, t4⟩
      have k5 := h4.c5
      have z5 := h4.z 5
      have h5 := h4.setLo true
      have d5 := h5.c5
      have T5 := Hid.mk ((T3.out.trans t4).setK (g := g) (by simp) 5 (.bool true))
      have k4 := h5.c4
      have H5 := Hid.mk h5
      clear h4 h5 t4 H3 T3 HA4
      go_wp2_with fail
      set_option maxRecDepth 100000 in
      go_region_with (go_at_call 46; refine (HA6.out _ _ H5.out.drew).mono ?_; rintro e w7 ⟨rfl, h7, t7⟩; have k4' := h7.c4; have z4' := h7.z 4)
      all_goals focus
        have hv := or_shift N M HB2.out HB6.out
        rw [hv]
        have H8 := Hid.mk (h7.setId ((N * 262144 + M : Nat) : Int))
        have T8 := Hid.mk ((T5.out.drew.trans t7).setK (g := g) (by simp) 4 (.int .i64 ((N * 262144 + M : Nat) : Int)))
        clear h7 t7 k4' z4' hv
        generalize w7.setCell ⟨g, 4, none⟩ (.int .i64 ((N * 262144 + M : Nat) : Int)) = w8 at *
        by_cases hRr : tR = [49]
        · obtain ⟨v1, v2, v3⟩ := is_yes HLR.out hRr
          have hdd : decide (tR = [49]) = true := by simpa using hRr
          clear hRr
          go_wp2_with fail
          refine (HA7.out _ _ H8.out).mono ?_
          rintro e w9 ⟨rfl, h9, t9⟩
          have k7 := h9.c7
          have z7 := h9.z 7
          have H9 := Hid.mk h9
          have T9 := Hid.mk (T8.out.trans t9)
          clear h9 t9
          go_wp2_with fail
          go_end0
          exact ⟨rfl, by rw [hdd]; exact H9.out.setRe true, T9.out.setK (by simp) _ _⟩
        · obtain ⟨v1, v2, v3⟩ := is_no HLR.out hRr
          have hdd : decide (tR = [49]) = false := by simpa using hRr
          clear hRr
          go_wp2_with fail
          refine (HA7.out _ _ H8.out).mono ?_
          rintro e w9 ⟨rfl, h9, t9⟩
          have k7 := h9.c7
          have z7 := h9.z 7
          have H9 := Hid.mk h9
          have T9 := Hid.mk (T8.out.trans t9)
          clear h9 t9
          go_wp2_with fail
          go_end0
          exact ⟨rfl, by rw [hdd]; exact H9.out.setRe false, T9.out.setK (by simp) _ _⟩

    · obtain ⟨x1, x2, x3⟩ := is_no HLF.out hF
      have e5 := HQ5.out
      rw [if_neg hF] at e5
      rw [← e5] at HA5
      clear hF
      go_enter Tryd.func33, Tryd.ntmps33
      go_wp2_with fail
      refine (HA1.out _ _ H.out).mono ?_
      rintro e w1 ⟨rfl, h1, t1⟩
      have H1 := Hid.mk h1
      clear h1 H HA1
      go_wp2_with fail
      refine (HA2.out _ _ H1.out).mono ?_
      rintro e w2 ⟨rfl, h2, t2⟩
      have t12 := t1.trans t2
      have k4 := h2.c4
      have z4 := h2.z 4
      have H2 := Hid.mk (h2.setId N)
      have T2 := Hid.mk (t12.setK (g := g) (by simp) 4 (.int .i64 N))
      clear h2 t1 t2 t12 H1 HA2
      go_wp2_with fail
      refine (HA3.out _ _ H2.out).mono ?_
      rintro e w3 ⟨rfl, h3, t3⟩
      have H3 := Hid.mk h3
      have T3 := Hid.mk (T2.out.trans t3)
      clear h3 t3 k4 z4 H2 T2 HA3
      go_wp2_with fail
      refine (HA4.out _ _ H3.out).mono ?_
      rintro e w4 ⟨rfl, h4, t4⟩
      have k5 := h4.c5
      have z5 := h4.z 5
      have h5 := h4.setLo true
      have d5 := h5.c5
      have T5 := Hid.mk ((T3.out.trans t4).setK (g := g) (by simp) 5 (.bool true))
      have k4 := h5.c4
      have H5 := Hid.mk h5
      clear h4 h5 t4 H3 T3 HA4
      go_wp2_with fail
      refine (HA5.out _ _ H5.out).mono ?_
      rintro e w5 ⟨rfl, h6, t6⟩
      have T6 := Hid.mk (T5.out.trans t6)
      have k4 := h6.c4
      have H6 := Hid.mk h6
      clear h6 t6 d5 k5 z5 H5 T5
      go_wp2_with fail
      set_option maxRecDepth 100000 in
      go_region_with (go_at_call 46; refine (HA6.out _ _ H6.out.drew).mono ?_; rintro e w7 ⟨rfl, h7, t7⟩; have k4' := h7.c4; have z4' := h7.z 4)
      all_goals focus
        have hv := or_shift N M HB2.out HB6.out
        rw [hv]
        have H8 := Hid.mk (h7.setId ((N * 262144 + M : Nat) : Int))
        have T8 := Hid.mk ((T6.out.drew.trans t7).setK (g := g) (by simp) 4 (.int .i64 ((N * 262144 + M : Nat) : Int)))
        clear h7 t7 k4' z4' hv
        generalize w7.setCell ⟨g, 4, none⟩ (.int .i64 ((N * 262144 + M : Nat) : Int)) = w8 at *
        by_cases hRr : tR = [49]
        · obtain ⟨v1, v2, v3⟩ := is_yes HLR.out hRr
          have hdd : decide (tR = [49]) = true := by simpa using hRr
          clear hRr
          go_wp2_with fail
          refine (HA7.out _ _ H8.out).mono ?_
          rintro e w9 ⟨rfl, h9, t9⟩
          have k7 := h9.c7
          have z7 := h9.z 7
          have H9 := Hid.mk h9
          have T9 := Hid.mk (T8.out.trans t9)
          clear h9 t9
          go_wp2_with fail
          go_end0
          exact ⟨rfl, by rw [hdd]; exact H9.out.setRe true, T9.out.setK (by simp) _ _⟩
        · obtain ⟨v1, v2, v3⟩ := is_no HLR.out hRr
          have hdd : decide (tR = [49]) = false := by simpa using hRr
          clear hRr
          go_wp2_with fail
          refine (HA7.out _ _ H8.out).mono ?_
          rintro e w9 ⟨rfl, h9, t9⟩
          have k7 := h9.c7
          have z7 := h9.z 7
          have H9 := Hid.mk h9
          have T9 := Hid.mk (T8.out.trans t9)
          clear h9 t9
          go_wp2_with fail
          go_end0
          exact ⟨rfl, by rw [hdd]; exact H9.out.setRe false, T9.out.setK (by simp) _ _⟩

  · rw [if_neg hL]
    obtain ⟨y1, y2, y3⟩ := is_no lL hL
    clear lL hL HA5 HA6 HA7 HQ5
    by_cases hF : tF = [49]
    · obtain ⟨x1, x2, x3⟩ := is_yes HLF.out hF
      have hdd : decide (tF = [49]) = true := by simpa using hF
      clear hF
      go_enter Tryd.func33, Tryd.ntmps33
      go_wp2_with fail
      refine (HA1.out _ _ H.out).mono ?_
      rintro e w1 ⟨rfl, h1, t1⟩
      have H1 := Hid.mk h1
      clear h1 H HA1
      go_wp2_with fail
      refine (HA2.out _ _ H1.out).mono ?_
      rintro e w2 ⟨rfl, h2, t2⟩
      have t12 := t1.trans t2
      have k4 := h2.c4
      have z4 := h2.z 4
      have H2 := Hid.mk (h2.setId N)
      have T2 := Hid.mk (t12.setK (g := g) (by simp) 4 (.int .i64 N))
      clear h2 t1 t2 t12 H1 HA2
      go_wp2_with fail
      refine (HA3.out _ _ H2.out).mono ?_
      rintro e w3 ⟨rfl, h3, t3⟩
      have H3 := Hid.mk h3
      have T3 := Hid.mk (T2.out.trans t3)
      clear h3 t3 k4 z4 H2 T2 HA3
      go_wp2_with fail
      refine (HA4.out _ _ H3.out).mono ?_
      rintro e w4 ⟨rfl, h4, t4⟩
      have k5 := h4.c5
      have z5 := h4.z 5
      have h5 := h4.setLo false
      have d5 := h5.c5
      have k7 := h5.c7
      have z7 := h5.z 7
      have T5 := Hid.mk ((T3.out.trans t4).setK (g := g) (by simp) 5 (.bool false))
      have H5 := Hid.mk h5
      clear h4 h5 t4 H3 T3 HA4
      go_wp2_with fail
      (try simp only [Exit.inBlock, Exit.then]); refine bodyPost_ret (results_none rfl _ _ _) rfl ?_
      exact ⟨rfl, by rw [hdd]; exact H5.out.setRe true, T5.out.setK (by simp) _ _⟩

    · obtain ⟨x1, x2, x3⟩ := is_no HLF.out hF
      have hdd : decide (tF = [49]) = false := by simpa using hF
      clear hF
      go_enter Tryd.func33, Tryd.ntmps33
      go_wp2_with fail
      refine (HA1.out _ _ H.out).mono ?_
      rintro e w1 ⟨rfl, h1, t1⟩
      have H1 := Hid.mk h1
      clear h1 H HA1
      go_wp2_with fail
      refine (HA2.out _ _ H1.out).mono ?_
      rintro e w2 ⟨rfl, h2, t2⟩
      have t12 := t1.trans t2
      have k4 := h2.c4
      have z4 := h2.z 4
      have H2 := Hid.mk (h2.setId N)
      have T2 := Hid.mk (t12.setK (g := g) (by simp) 4 (.int .i64 N))
      clear h2 t1 t2 t12 H1 HA2
      go_wp2_with fail
      refine (HA3.out _ _ H2.out).mono ?_
      rintro e w3 ⟨rfl, h3, t3⟩
      have H3 := Hid.mk h3
      have T3 := Hid.mk (T2.out.trans t3)
      clear h3 t3 k4 z4 H2 T2 HA3
      go_wp2_with fail
      refine (HA4.out _ _ H3.out).mono ?_
      rintro e w4 ⟨rfl, h4, t4⟩
      have k5 := h4.c5
      have z5 := h4.z 5
      have h5 := h4.setLo false
      have d5 := h5.c5
      have k7 := h5.c7
      have z7 := h5.z 7
      have T5 := Hid.mk ((T3.out.trans t4).setK (g := g) (by simp) 5 (.bool false))
      have H5 := Hid.mk h5
      clear h4 h5 t4 H3 T3 HA4
      go_wp2_with fail
      (try simp only [Exit.inBlock, Exit.then]); refine bodyPost_ret (results_none rfl _ _ _) rfl ?_
      exact ⟨rfl, by rw [hdd]; exact H5.out.setRe false, T5.out.setK (by simp) _ _⟩

end Bw
end Go.Proofs.YtacfkdgepknpkalDoor

/- One step of the register as the program reckons it, in words of 64 bits. -/
namespace Go.Proofs.YtacfkdgepknpkalDoor.Cm
open Go Bm

theorem xor_i64 (a b : Nat) (ha : a < 2 ^ 62) (hb : b < 2 ^ 62) : bits .xor .i64 (a : Int) (b : Int) = ((a ^^^ b : Nat) : Int) := by
  have hx : a ^^^ b < 2 ^ 62 := Nat.xor_lt_two_pow ha hb
  have h1 : (BitVec.ofInt 64 (a : Int)).toNat = a := by
    rw [BitVec.ofInt_natCast, BitVec.toNat_ofNat]; exact Nat.mod_eq_of_lt (by omega)
  have h2 : (BitVec.ofInt 64 (b : Int)).toNat = b := by
    rw [BitVec.ofInt_natCast, BitVec.toNat_ofNat]; exact Nat.mod_eq_of_lt (by omega)
  show IntKind.i64.wrap ((BitVec.ofInt 64 (a : Int) ^^^ BitVec.ofInt 64 (b : Int)).toNat : Int) = _
  rw [BitVec.toNat_xor, h1, h2, IntKind.wrap_i64]
  omega
theorem two_pow_cast (s : Nat) : ((2 ^ s : Nat) : Int) = (2 : Int) ^ s := by simp
theorem pow_small (s : Nat) (h : s ≤ 21) : (1 : Int) ≤ 2 ^ s ∧ (2 : Int) ^ s ≤ 2097152 := by
  rw [← two_pow_cast]
  have h1 : 2 ^ s ≤ 2 ^ 21 := Nat.pow_le_pow_right (by omega) h
  have h2 := Nat.two_pow_pos s
  omega
theorem mask_i64 (n s : Nat) (hs : s ≤ 21) (hn : n < 2 ^ 62) : bits .and .i64 (n : Int) (2 ^ s - 1) = ((n % 2 ^ s : Nat) : Int) := by
  have := bits_mask .i64 62 (by decide) (fun n h0 h1 => by rw [IntKind.wrap_i64]; omega) s (by omega) (n : Int) (by omega) (by omega)
  rw [this]
  simp
theorem wrap_small (x : Int) (h0 : -9223372036854775808 ≤ x) (h1 : x < 9223372036854775808) : IntKind.i64.wrap x = x := by rw [IntKind.wrap_i64]; omega
/-- the bit that goes out at the left -/
theorem out_div (n s : Nat) (hs : 1 ≤ s) : 2 * n / 2 ^ s = n / 2 ^ (s - 1) := by
  obtain ⟨t, rfl⟩ : ∃ t, s = t + 1 := ⟨s - 1, by omega⟩
  rw [Nat.add_sub_cancel, Nat.pow_succ, Nat.mul_comm (2 ^ t) 2, Nat.mul_div_mul_left _ _ (by omega)]
theorem out_int (n s : Nat) (hs : 1 ≤ s) : (2 * (n : Int)) / 2 ^ s = ((n / 2 ^ (s - 1) : Nat) : Int) := by
  rw [← out_div n s hs]
  simp
theorem step_eq (s p n d : Nat) (h : n / 2 ^ (s - 1) = d) : crcStep s p n d = 2 * n % 2 ^ s := by
  unfold crcStep; rw [if_pos h, Nat.xor_zero]
theorem step_ne (s p n d : Nat) (h : n / 2 ^ (s - 1) ≠ d) : crcStep s p n d = 2 * n % 2 ^ s ^^^ p := by
  unfold crcStep; rw [if_neg h]
end Go.Proofs.YtacfkdgepknpkalDoor.Cm

/- What the method next of check.rule answers: one step of the register. -/
namespace Go.Proofs.YtacfkdgepknpkalDoor
open Go.ChangeShapes Go.WideShapes Go.ChangeAt Go.RowKit
namespace Bw
open Bm Cm

theorem mask_walk (n s : Nat) (hs : s ≤ 21) (hn : n ≤ 2097151) : bits .and .i64 ((n : Int) * 2) (wrap64 (wrap64 (2 ^ s) - 1)) = ((2 * n % 2 ^ s : Nat) : Int) := by
  obtain ⟨h1, h2⟩ := pow_small s hs
  have e1 : wrap64 (2 ^ s) = (2 : Int) ^ s := by unfold wrap64; omega
  have e2 : wrap64 ((2 : Int) ^ s - 1) = (2 : Int) ^ s - 1 := by unfold wrap64; omega
  rw [e1, e2]
  have e3 : (n : Int) * 2 = ((2 * n : Nat) : Int) := by omega
  rw [e3]
  exact mask_i64 (2 * n) s hs (by omega)
theorem out_walk (n s : Nat) (hs1 : 1 ≤ s) : (n : Int) * 2 / 2 ^ s = ((n / 2 ^ (s - 1) : Nat) : Int) := by
  rw [Int.mul_comm]; exact out_int n s hs1

set_option maxHeartbeats 1000000 in
theorem next_any (s p f en n d : Nat) (w : World) (hs1 : 1 ≤ s) (hs : s ≤ 21) (hp : p < 2 ^ s) (hn : n < 2 ^ s) :
    Calls Tryd.prog 43 #[.agg #[.int .i64 s, .int .i64 p, .int .i64 f, .int .i64 en], .int .i64 n, .int .i64 d] w fun e w' => e = .returned (.int .i64 (crcStep s p n d)) ∧ Below w.heap.size w w' := by
  have h21 : 2 ^ s ≤ 2 ^ 21 := Nat.pow_le_pow_right (by omega) hs
  have hnb : (n : Int) ≤ 2097151 := by omega
  have hpb : p ≤ 2097151 := by omega
  have hs1' : (1 : Int) ≤ (s : Int) := by omega
  have hs' : (s : Int) ≤ 21 := by omega
  have HM := Hid.mk (mask_walk n s hs (by omega))
  have HO := Hid.mk (out_walk n s hs1)
  have HB := Hid.mk (show 2 * n % 2 ^ s < 2 ^ s from Nat.mod_lt _ (Nat.two_pow_pos s))
  have HC := Hid.mk h21
  clear h21 hp hn
  by_cases hd : n / 2 ^ (s - 1) = d
  · have hc : ((n : Int) * 2 / 2 ^ s != (d : Int)) = false := by rw [HO.out, hd]; simp
    go_enter Tryd.func43, Tryd.ntmps43
    go_wp2_with fail
    go_ret
    exact ⟨by rw [HM.out, step_eq s p n d hd]; rfl, (Below.refl _ _).alloc (Nat.le_refl _) _⟩
  · have hc : ((n : Int) * 2 / 2 ^ s != (d : Int)) = true := by
      rw [HO.out, bne_iff_ne]
      intro h
      exact hd (by exact_mod_cast h)
    go_enter Tryd.func43, Tryd.ntmps43
    go_wp2_with fail
    go_ret
    refine ⟨?_, (Below.refl _ _).alloc (Nat.le_refl _) _⟩
    have h1 := HB.out
    have h2 := HC.out
    rw [HM.out, step_ne s p n d hd, xor_i64 _ _ (by omega) (by omega)]
    rfl
end Bw
end Go.Proofs.YtacfkdgepknpkalDoor

/- What check.sum answers of a row by one of the five kinds. -/
namespace Go.Proofs.YtacfkdgepknpkalDoor
open Go.ChangeShapes Go.WideShapes Go.ChangeAt Go.RowKit
namespace Bw
open Bm Cm

theorem new_cell (W : World) (cs : Array Value) (t : TypeId) (k g : Nat) (hg : g = W.heap.size) : (W.alloc (.cells cs t)).cell? ⟨g, k, none⟩ = cs[k]? := by
  subst hg
  exact cell_of_row _ _ k _ _ _ (heap_alloc_new W _)
theorem up_lt' {n a c : Nat} (h : n < 2 ^ a) (ha : a ≤ c) : n < 2 ^ c := Nat.lt_of_lt_of_le h (Nat.pow_le_pow_right (Nat.succ_pos 1) ha)
def rk (k : Nat) : Value := .agg #[.int .i64 (kS k), .int .i64 (kP k), .int .i64 (kF k), .int .i64 (kE k)]

set_option maxHeartbeats 4000000 in
theorem sumR_any (s p f en : Nat) (b : ByteArray) (w : World) (hs1 : 1 ≤ s) (hs : s ≤ 21) (hp : p < 2 ^ s) (hf : f < 2 ^ s) (he : en < 2 ^ s) (h1000 : b.size ≤ 1000) (hrow : rowB b.data.toList = true) :
    Calls Tryd.prog 28 #[.agg #[.int .i64 s, .int .i64 p, .int .i64 f, .int .i64 en], .string b] w fun e w' =>
      e = .returned (.tuple #[.string ⟨(bitsHead (crcR s p f b.data.toList ^^^ en) s s).toArray⟩, .int .i64 0]) ∧ Below w.heap.size w w' := by
  have hl : b.data.toList.length = b.size := by simp
  have HL := Hid.mk hl
  have HP := Hid.mk hp
  have HF := Hid.mk hf
  have HE := Hid.mk he
  have HR := Hid.mk hrow
  have hb1 : Below w.heap.size w (w.alloc (.cells #[.int .i64 s, .int .i64 p, .int .i64 f, .int .i64 en] 47)) := (Below.refl _ _).alloc (Nat.le_refl _) _
  have hnc := fun k => new_cell w #[.int .i64 s, .int .i64 p, .int .i64 f, .int .i64 en] 47 k w.heap.size rfl
  have HC := Hid.mk (And.intro (hnc 0) (And.intro (hnc 1) (And.intro (hnc 2) (hnc 3))))
  have HS := Hid.mk (show (w.alloc (.cells #[.int .i64 s, .int .i64 p, .int .i64 f, .int .i64 en] 47)).heap.size = w.heap.size + 1 by simp)
  clear hp hf he hrow hnc hl
  go_enter Tryd.func28, Tryd.ntmps28
  go_wp2_with fail
  generalize hW1 : w.alloc (.cells #[.int .i64 s, .int .i64 p, .int .i64 f, .int .i64 en] 47) = W1 at *
  clear hW1
  go_loopw [6, 12] (fun r i wr => ∃ j : Nat, j ≤ b.size ∧ i = .int .i64 j ∧ r = .int .i64 (crcR s p f (b.data.toList.take j)) ∧ Below W1.heap.size W1 wr) (fun _ i _ => b.size - (intOf i).toNat)
  case atStart => exact ⟨0, Nat.zero_le _, rfl, rfl, Below.refl _ _⟩
  case round =>
    obtain ⟨j, hj, rfl, rfl, hbel⟩ := hrel
    have k0 := cell_kept hbel HC.out.1
    have k1 := cell_kept hbel HC.out.2.1
    have k2 := cell_kept hbel HC.out.2.2.1
    have k3 := cell_kept hbel HC.out.2.2.2
    simp at k0 k1 k2 k3
    have HN := Hid.mk (crcR_lt s p f HP.out HF.out (b.data.toList.take j))
    by_cases hlt : j < b.size
    · have hbit := rowB_at HR.out j hlt
      have hd := (bit_dig hbit).2
      have hd1 := (bit_dig hbit).1
      have HT := Hid.mk (take_snoc b j hlt)
      have hbn := rowB_at' HR.out j hlt
      have hb48 : (48 : Int) ≤ (b[j].toNat : Int) := by omega
      have hb49 : (b[j].toNat : Int) ≤ 49 := by omega
      have HD : Hid (IntKind.i64.wrap (IntKind.u8.wrap ((b[j].toNat : Int) - 48)) = ((dig b[j] : Nat) : Int)) := by
        refine Hid.mk ?_
        rw [hd]
        have e1 : IntKind.u8.wrap ((b[j].toNat : Int) - 48) = (b[j].toNat : Int) - 48 := by simp [IntKind.wrap, IntKind.bits, IntKind.signed]; omega
        rw [e1, IntKind.wrap_i64]; omega
      clear hd hd1 hbit hbn
      go_wp2_with fail
      set_option maxRecDepth 100000 in
      go_region_with (go_at_call 43; rw [HD.out]; refine (next_any s p f en _ (dig b[j]) _ hs1 hs HP.out HN.out).mono ?_; rintro e w2 ⟨rfl, hb2⟩)
      all_goals focus
        have hbel2 : Below W1.heap.size W1 w2 := hbel.drew.trans (hb2.mono hbel.size)
        rw [← crcR_snoc, ← HT.out]
        clear hb2 hbel k0 k1 k2 k3 HD HN
        go_wp2_with fail
        go_roundw
        case rel => exact ⟨j + 1, by omega, by go_num, rfl, hbel2⟩
        case measure => simp [intOf]; omega
    · have e : j = b.size := by omega
      subst e
      rw [List.take_of_length_le (by rw [HL.out]; exact Nat.le_refl _)] at HN ⊢
      have hx := xor_i64 _ _ (up_lt' (c := 62) HN.out (by omega)) (up_lt' (c := 62) HE.out (by omega))
      have hr := row_ok (crcR s p f b.data.toList ^^^ en) s wr (by omega) (Nat.xor_lt_two_pow HN.out HE.out)
      have HX := Hid.mk hx
      have HRO := Hid.mk hr
      clear hx hr
      go_wp2_with fail
      rw [HX.out]
      refine HRO.out.mono ?_
      rintro e w2 ⟨rfl, hb2⟩
      go_wp2_with fail
      go_ret2
      exact ⟨rfl, hb1.trans ((hbel.trans (hb2.mono hbel.size)).mono hb1.size)⟩
end Bw
end Go.Proofs.YtacfkdgepknpkalDoor

/- What check.Sum answers, errors too, where the table of kinds lies as its initialiser lays it. -/
namespace Go.Proofs.YtacfkdgepknpkalDoor
open Go.ChangeShapes Go.WideShapes Go.ChangeAt Go.RowKit
namespace Bw
open Bm Cm

/-- the table of kinds, cell by cell -/
def RulesAt (w : World) : Prop := ∀ k, k ≤ 4 → w.cell? ⟨0, k * 4, none⟩ = some (.int .i64 (kS k)) ∧ w.cell? ⟨0, k * 4 + 1, none⟩ = some (.int .i64 (kP k)) ∧ w.cell? ⟨0, k * 4 + 2, none⟩ = some (.int .i64 (kF k)) ∧ w.cell? ⟨0, k * 4 + 3, none⟩ = some (.int .i64 (kE k))
theorem RulesAt.kept {w w' : World} (h : RulesAt w) (hb : Below w.heap.size w w') : RulesAt w' := fun k hk =>
  ⟨cell_kept hb (h k hk).1, cell_kept hb (h k hk).2.1, cell_kept hb (h k hk).2.2.1, cell_kept hb (h k hk).2.2.2⟩

set_option maxHeartbeats 1000000 in
theorem isKind_any (k : Int) (w : World) :
    Calls Tryd.prog 27 #[.int .i64 k] w fun e w' => e = .returned (.bool (decide (0 ≤ k) && decide (k < 5))) ∧ w' = w := by
  by_cases h : 0 ≤ k
  · have h0 : decide (k ≥ 0) = true := by simpa using h
    have h0' : decide (0 ≤ k) = true := by simpa using h
    go_enter Tryd.func27, Tryd.ntmps27
    go_wp2_with fail
    go_ret
    exact ⟨by first | rfl | (rw [h0']; rfl), rfl⟩
  · have h0 : decide (k ≥ 0) = false := by simpa using h
    have h0' : decide (0 ≤ k) = false := by simpa using h
    go_enter Tryd.func27, Tryd.ntmps27
    go_wp2_with fail
    go_ret
    exact ⟨by first | rfl | (rw [h0']; rfl), rfl⟩
theorem isKind_yes (k : Nat) (w : World) (hk : k ≤ 4) : Calls Tryd.prog 27 #[.int .i64 k] w fun e w' => e = .returned (.bool true) ∧ w' = w :=
  (isKind_any k w).mono fun e w' ⟨h1, h2⟩ => ⟨by
    have a : decide ((0 : Int) ≤ (k : Int)) = true := by simp
    have b : decide ((k : Int) < 5) = true := by simp; omega
    rw [h1, a, b]; rfl, h2⟩
theorem isKind_no (k : Int) (w : World) (hk : k < 0 ∨ 4 < k) : Calls Tryd.prog 27 #[.int .i64 k] w fun e w' => e = .returned (.bool false) ∧ w' = w :=
  (isKind_any k w).mono fun e w' ⟨h1, h2⟩ => ⟨by
    have : (decide ((0 : Int) ≤ k) && decide (k < 5)) = false := by
      rcases hk with h | h
      · have : decide ((0 : Int) ≤ k) = false := by simpa using h
        rw [this]; rfl
      · have : decide (k < 5) = false := by simp; omega
        rw [this]; simp
    rw [h1, this], h2⟩

set_option maxHeartbeats 2000000 in
theorem sum_bad (k : Int) (b : ByteArray) (w : World) (hb : b.size ≤ maxLen) (hc : checkE b.data.toList ≠ 0) :
    Calls Tryd.prog 12 #[.int .i64 k, .string b] w fun e w' => e = .returned (.tuple #[.string ⟨#[]⟩, .int .i64 (checkE b.data.toList)]) ∧ Below w.heap.size w w' := by
  have h1 := check_any b w hb
  have hne : (checkE b.data.toList != 0) = true := by simpa using hc
  generalize checkE b.data.toList = ce at *
  go_enter Tryd.func12, Tryd.ntmps12
  go_wp2_with fail
  refine h1.mono ?_
  rintro e w1 ⟨rfl, hb1⟩
  go_wp2_with fail
  go_ret2
  exact ⟨rfl, hb1⟩
set_option maxHeartbeats 2000000 in
theorem sum_who (k : Int) (b : ByteArray) (w : World) (hb : b.size ≤ maxLen) (hc : checkE b.data.toList = 0) (hk : k < 0 ∨ 4 < k) :
    Calls Tryd.prog 12 #[.int .i64 k, .string b] w fun e w' => e = .returned (.tuple #[.string ⟨#[]⟩, .int .i64 8]) ∧ Below w.heap.size w w' := by
  have h1 := check_any b w hb
  rw [hc] at h1
  have HK := Hid.mk hk
  clear hk hc
  go_enter Tryd.func12, Tryd.ntmps12
  go_wp2_with fail
  refine h1.mono ?_
  rintro e w1 ⟨rfl, hb1⟩
  clear h1
  go_wp2_with fail
  refine (isKind_no k w1 HK.out).mono ?_
  rintro e w2 ⟨rfl, hw2⟩
  subst hw2
  go_wp2_with fail
  go_ret2
  exact ⟨rfl, hb1⟩
set_option maxHeartbeats 2000000 in
theorem sum_ok (k : Nat) (b : ByteArray) (w : World) (hR : RulesAt w) (hc : checkE b.data.toList = 0) (hk : k ≤ 4) :
    Calls Tryd.prog 12 #[.int .i64 k, .string b] w fun e w' => e = .returned (.tuple #[.string ⟨(sumL k b.data.toList).toArray⟩, .int .i64 0]) ∧ Below w.heap.size w w' := by
  obtain ⟨h1000, hrow⟩ := small_of_check hc
  have h1 := check_any b w (by unfold maxLen; omega)
  rw [hc] at h1
  obtain ⟨s8, s21, p1, hp, hf, he, _⟩ := kinds_ok k hk
  have h2 := fun W => sumR_any (kS k) (kP k) (kF k) (kE k) b W (by omega) s21 hp hf he h1000 hrow
  have H2 := Hid.mk h2
  have H3 := Hid.mk hR
  have hk' : (k : Int) < 5 := by omega
  clear hR hc hp hf he hrow h2
  go_enter Tryd.func12, Tryd.ntmps12
  go_wp2_with fail
  refine h1.mono ?_
  rintro e w1 ⟨rfl, hb1⟩
  clear h1
  obtain ⟨c0, c1, c2, c3⟩ := H3.out.kept hb1 k hk
  go_wp2_with fail
  refine (isKind_yes k w1 hk).mono ?_
  rintro e w2 ⟨rfl, hw2⟩
  subst hw2
  go_wp2_with fail
  refine (H2.out _).mono ?_
  rintro e w3 ⟨rfl, hb3⟩
  go_wp2_with fail
  go_ret2
  exact ⟨rfl, bl2 hb1 hb3⟩

end Bw
end Go.Proofs.YtacfkdgepknpkalDoor

/- What the reader's methods readForm, readSum and readEnding do. -/
namespace Go.Proofs.YtacfkdgepknpkalDoor
open Go.ChangeShapes Go.WideShapes Go.ChangeAt Go.RowKit
namespace Bw
open Bm Cm Go.Sort

set_option maxHeartbeats 8000000 in
theorem readForm_any (g : Nat) (b : ByteArray) (S : RS) (F : Fd) (n : Nat) (w : World) (h : RdAt w g b S F) (hc : checkE b.data.toList = 0) (hi : Inv b.data.toList S n) (hn : n ≤ 800) :
    Calls Tryd.prog 34 #[.pointer (some ⟨g, 0, none⟩)] w fun e w' =>
      e = .returned (.tuple #[]) ∧ RdAt w' g b (formP b.data.toList S F.lo F.re).1 ⟨F.id, F.lo, (formP b.data.toList S F.lo F.re).2, F.re, F.sz, F.d⟩ ∧ Tch [g] w w' := by
  have hrow := (small_of_check hc).2
  have i1 : Inv b.data.toList (takeP b.data.toList S 1).2 (n + 1) := hi.take hrow 1
  have a1 : ∀ (W : World) (F : Fd), RdAt W g b S F → _ := fun W F hW => take_any g 1 b S F W hW hc (by have := hi.n; omega)
  have a2 : ∀ (W : World) (F : Fd), RdAt W g b (takeP b.data.toList S 1).2 F → _ := fun W F hW => want_any g b ⟨#[48, 49, 48]⟩ _ F (n + 1) W hW hc i1 (by show n + 1 + 3 ≤ 1000; omega)
  have a3 : ∀ (W : World) (F : Fd), RdAt W g b (takeP b.data.toList S 1).2 F → _ := fun W F hW => want_any g b ⟨#[48]⟩ _ F (n + 1) W hW hc i1 (by show n + 1 + 1 ≤ 1000; omega)
  have a4 : ∀ (W : World) (F : Fd), RdAt W g b (takeP b.data.toList S 1).2 F → _ := fun W F hW => fail_any g b _ F 4 W hW
  rw [show (ByteArray.mk #[48, 49, 48]).data.toList = [48, 49, 48] from rfl] at a2
  rw [show (ByteArray.mk #[48]).data.toList = [48] from rfl] at a3
  unfold formP
  generalize takeP b.data.toList S 1 = A at *
  obtain ⟨t, S'⟩ := A
  simp only at a1 a2 a3 a4 ⊢
  have lT := mk_list t
  generalize ByteArray.mk t.toArray = T at *
  generalize wantP b.data.toList S' [48, 49, 48] = SA at *
  generalize wantP b.data.toList S' [48] = SB at *
  have HA1 := Hid.mk a1
  have HA2 := Hid.mk a2
  have HA3 := Hid.mk a3
  have HA4 := Hid.mk a4
  have H := Hid.mk h
  clear a1 a2 a3 a4 h hrow i1 hi hc hn
  obtain ⟨id, lo, fa, re, sz, d⟩ := F
  by_cases ht : t = [49]
  · rw [if_pos ht]
    obtain ⟨y1, y2, y3⟩ := is_yes lT ht
    clear ht lT
    cases re
    all_goals
      go_enter Tryd.func34, Tryd.ntmps34
      go_wp2_with fail
      refine (HA1.out _ _ H.out).mono ?_
      rintro e w1 ⟨rfl, h1, t1⟩
      have k6 := h1.c6
      have z6 := h1.z 6
      have h2 := h1.setFa true
      have d6 := h2.c6
      have d7 := h2.c7
      have H2 := Hid.mk h2
      have T2 := Hid.mk (t1.setK (g := g) (by simp) 6 (.bool true))
      clear h1 h2 t1 H HA1
      go_wp2_with fail
    · refine (HA2.out _ _ H2.out).mono ?_
      rintro e w3 ⟨rfl, h3, t3⟩
      go_wp2_with fail
      go_end0
      exact ⟨rfl, h3, T2.out.trans t3⟩
    · refine (HA4.out _ _ H2.out).mono ?_
      rintro e w3 ⟨rfl, h3, t3⟩
      go_wp2_with fail
      go_end0
      exact ⟨rfl, h3, T2.out.trans t3⟩
  · rw [if_neg ht]
    obtain ⟨y1, y2, y3⟩ := is_no lT ht
    clear ht lT
    cases lo
    all_goals
      go_enter Tryd.func34, Tryd.ntmps34
      go_wp2_with fail
      refine (HA1.out _ _ H.out).mono ?_
      rintro e w1 ⟨rfl, h1, t1⟩
      have k6 := h1.c6
      have z6 := h1.z 6
      have h2 := h1.setFa false
      have d6 := h2.c6
      have d7 := h2.c7
      have d5 := h2.c5
      have H2 := Hid.mk h2
      have T2 := Hid.mk (t1.setK (g := g) (by simp) 6 (.bool false))
      clear h1 h2 t1 H HA1
      go_wp2_with fail
    · go_end0
      exact ⟨rfl, H2.out, T2.out⟩
    · refine (HA3.out _ _ H2.out).mono ?_
      rintro e w3 ⟨rfl, h3, t3⟩
      go_wp2_with fail
      go_end0
      exact ⟨rfl, h3, T2.out.trans t3⟩

theorem RulesAt.tch {w w' : World} {g : Nat} (h : RulesAt w) (ht : Tch [g] w w') (hg : 0 ≠ g) : RulesAt w' := by
  have key : ∀ j v, w.cell? ⟨0, j, none⟩ = some v → w'.cell? ⟨0, j, none⟩ = some v := by
    intro j v hv
    have hlt : 0 < w.heap.size := block_lt_of_cell hv
    unfold World.cell? at hv ⊢
    rw [ht.block _ hlt (by simpa using hg)]
    exact hv
  intro k hk
  obtain ⟨h1, h2, h3, h4⟩ := h k hk
  exact ⟨key _ _ h1, key _ _ h2, key _ _ h3, key _ _ h4⟩

set_option maxHeartbeats 4000000 in
theorem readSum_any (g : Nat) (b : ByteArray) (S : RS) (F : Fd) (n : Nat) (w : World) (h : RdAt w g b S F) (hR : RulesAt w) (hc : checkE b.data.toList = 0) (hi : Inv b.data.toList S n) (hn : n ≤ 800) :
    Calls Tryd.prog 37 #[.pointer (some ⟨g, 0, none⟩)] w fun e w' =>
      e = .returned (.tuple #[]) ∧ RdAt w' g b (sumP b.data.toList S) F ∧ Tch [g] w w' := by
  have hol := hi.n
  have hOl := mk_list S.o
  have hOs := mk_size S.o
  have hso := sum_ok 0 ⟨S.o.toArray⟩ w hR (checkE_row (by rw [hOl]; exact hi.row) (by rw [hOl]; omega)) (by omega)
  rw [hOl] at hso
  have hsn : (sumL 0 S.o).length = 15 := sumL_len 0 S.o
  have hsl := mk_list (sumL 0 S.o)
  have a1 : ∀ (W : World), RdAt W g b S F → _ := fun W hW => take_any g 15 b S F W hW hc (by omega)
  have a2 : ∀ (W : World), RdAt W g b (takeP b.data.toList S 15).2 F → _ := fun W hW => fail_any g b _ F 6 W hW
  have c3 := h.c3
  unfold sumP
  generalize sumL 0 S.o = sl at *
  generalize takeP b.data.toList S 15 = A at *
  obtain ⟨t, S'⟩ := A
  simp only at a1 a2 ⊢
  have lT := mk_list t
  generalize ByteArray.mk t.toArray = T at *
  generalize ByteArray.mk sl.toArray = SU at *
  generalize ByteArray.mk S.o.toArray = O at *
  have hSz : SU.size = 15 := by rw [ba_size hsl, hsn]
  have hSi : (SU.size : Int) = ((15 : Nat) : Int) := by rw [hSz]
  rw [← hSi] at a1
  have hSm : SU.size ≤ 15 := by omega
  have hne := str_ne lT hsl
  have heq := str_eq lT hsl
  have HA1 := Hid.mk a1
  have HA2 := Hid.mk a2
  have HSO := Hid.mk hso
  have H := Hid.mk h
  clear a1 a2 hso h hsn hsl lT hSz hSi hOl hOs hol hi hn hc hR
  by_cases ht : t = sl
  · rw [if_pos ht]
    have q1 : (T.toList != SU.toList) = false := by rw [hne, ht]; simp
    have q2 : (T.toList == SU.toList) = true := by rw [heq, ht]; simp
    have q3 : T.toList = SU.toList := by simpa using q2
    clear hne heq ht
    go_enter Tryd.func37, Tryd.ntmps37
    go_wp2_with fail
    refine HSO.out.mono ?_
    rintro e w1 ⟨rfl, hb1⟩
    have H1 := Hid.mk (H.out.kept hb1)
    have T1 := Hid.mk (show Tch [g] w w1 from Tch.of hb1)
    clear hb1
    go_wp2_with fail
    refine (HA1.out _ H1.out).mono ?_
    rintro e w2 ⟨rfl, h2, t2⟩
    have H2 := Hid.mk h2
    clear h2
    go_wp2_with fail
    go_end0
    exact ⟨rfl, H2.out, T1.out.trans t2⟩
  · rw [if_neg ht]
    have q1 : (T.toList != SU.toList) = true := by rw [hne]; simp [ht]
    have q2 : (T.toList == SU.toList) = false := by rw [heq]; simp [ht]
    have q3 : ¬ T.toList = SU.toList := by simpa using q2
    clear hne heq ht
    go_enter Tryd.func37, Tryd.ntmps37
    go_wp2_with fail
    refine HSO.out.mono ?_
    rintro e w1 ⟨rfl, hb1⟩
    have H1 := Hid.mk (H.out.kept hb1)
    have T1 := Hid.mk (show Tch [g] w w1 from Tch.of hb1)
    clear hb1
    go_wp2_with fail
    refine (HA1.out _ H1.out).mono ?_
    rintro e w2 ⟨rfl, h2, t2⟩
    have H2 := Hid.mk h2
    clear h2
    go_wp2_with fail
    refine (HA2.out _ H2.out).mono ?_
    rintro e w3 ⟨rfl, h3, t3⟩
    have H3 := Hid.mk h3
    clear h3
    go_wp2_with fail
    go_end0
    exact ⟨rfl, H3.out, (T1.out.trans t2).trans t3⟩

theorem str_is {T : ByteArray} {t c : List UInt8} (hT : T.data.toList = t) : (T.toList == c) = decide (t = c) := by
  rw [ByteArray.toList_eq, hT, Bool.eq_iff_iff, beq_iff_eq, decide_eq_true_iff]
set_option maxHeartbeats 4000000 in
theorem readEnding_any (g : Nat) (b : ByteArray) (S : RS) (F : Fd) (w : World) (h : RdAt w g b S F) (h1000 : b.size ≤ 1000) (hu : S.u ≤ b.size) :
    Calls Tryd.prog 38 #[.pointer (some ⟨g, 0, none⟩)] w fun e w' =>
      e = .returned (.tuple #[]) ∧ RdAt w' g b (endP b.data.toList S) F ∧ Tch [g] w w' := by
  have a1 := nextB_any g 10 b S F w h h1000 hu (by omega)
  have a2 : ∀ (W : World), RdAt W g b (nextP b.data.toList S 10).2 F → _ := fun W hW => fail_any g b _ F 4 W hW
  unfold endP
  generalize nextP b.data.toList S 10 = A at *
  obtain ⟨t, S'⟩ := A
  simp only at a1 a2 ⊢
  have lT := mk_list t
  generalize ByteArray.mk t.toArray = T at *
  have e1 := str_is (c := onesL) lT
  have e2 := str_is (c := heardL) lT
  have HA1 := Hid.mk a1
  have HA2 := Hid.mk a2
  have H := Hid.mk h
  clear a1 a2 h lT
  by_cases h1 : t = onesL
  · rw [if_pos (.inl h1)]
    have q1 : (T.toList == onesL) = true := by rw [e1, h1]; simp
    have q2 : (T.toList != onesL) = false := by rw [bne, q1]; rfl
    have q3 : T.toList = onesL := by simpa using q1
    unfold onesL at q1 q2 q3
    clear e1 e2 h1
    go_enter Tryd.func38, Tryd.ntmps38
    go_wp2_with fail
    refine HA1.out.mono ?_
    rintro e w1 ⟨rfl, h1, t1⟩
    have H1 := Hid.mk h1
    clear h1
    go_wp2_with fail
    go_end0
    exact ⟨rfl, H1.out, t1⟩
  · have q1 : (T.toList == onesL) = false := by rw [e1]; simp [h1]
    have q2 : (T.toList != onesL) = true := by rw [bne, q1]; rfl
    have q3 : ¬ T.toList = onesL := by simpa using q1
    by_cases h2 : t = heardL
    · rw [if_pos (.inr h2)]
      have r1 : (T.toList == heardL) = true := by rw [e2, h2]; simp
      have r2 : (T.toList != heardL) = false := by rw [bne, r1]; rfl
      have r3 : T.toList = heardL := by simpa using r1
      unfold onesL at q1 q2 q3
      unfold heardL at r1 r2 r3
      clear e1 e2 h1 h2 q1 q2 q3
      go_enter Tryd.func38, Tryd.ntmps38
      go_wp2_with fail
      refine HA1.out.mono ?_
      rintro e w1 ⟨rfl, h1, t1⟩
      have H1 := Hid.mk h1
      clear h1
      go_wp2_with fail
      go_end0
      exact ⟨rfl, H1.out, t1⟩
    · rw [if_neg (by rintro (x | x); exact h1 x; exact h2 x)]
      have r1 : (T.toList == heardL) = false := by rw [e2]; simp [h2]
      have r2 : (T.toList != heardL) = true := by rw [bne, r1]; rfl
      have r3 : ¬ T.toList = heardL := by simpa using r1
      unfold onesL at q1 q2 q3
      unfold heardL at r1 r2 r3
      clear e1 e2 h1 h2
      go_enter Tryd.func38, Tryd.ntmps38
      go_wp2_with fail
      refine HA1.out.mono ?_
      rintro e w1 ⟨rfl, h1, t1⟩
      have H1 := Hid.mk h1
      clear h1
      go_wp2_with fail
      refine (HA2.out _ H1.out).mono ?_
      rintro e w2 ⟨rfl, h2, t2⟩
      have H2 := Hid.mk h2
      clear h2
      go_wp2_with fail
      go_end0
      exact ⟨rfl, H2.out, t1.trans t2⟩
end Bw
end Go.Proofs.YtacfkdgepknpkalDoor

/- Where a number stands first in a list; the numbers of bytes that a frame can have. -/
namespace Go.Proofs.YtacfkdgepknpkalDoor
open Go.ChangeShapes Go.WideShapes Go.ChangeAt Go.RowKit
namespace Bw
open Bm Cm

/-- block g begins with these numbers -/
def IntsAt (w : World) (g : Nat) (xs : List Int) : Prop := ∀ i, i < xs.length → w.cell? ⟨g, i, none⟩ = some (.int .i64 (xs.getD i 0))
/-- where v stands first, or -1 -/
def idxI : List Int → Int → Int
  | [], _ => -1
  | x :: xs, v => if x = v then 0 else if idxI xs v = -1 then -1 else idxI xs v + 1
theorem idxI_ge (xs : List Int) (v : Int) : -1 ≤ idxI xs v ∧ idxI xs v < xs.length := by
  induction xs with
  | nil => simp [idxI]
  | cons x xs ih =>
    rw [idxI, List.length_cons]
    split
    · omega
    · split <;> omega
theorem idxI_app (a b : List Int) (v : Int) (h : v ∉ a) : idxI (a ++ b) v = if idxI b v = -1 then -1 else idxI b v + a.length := by
  induction a with
  | nil => simp
  | cons x a ih =>
    have h1 : x ≠ v := fun e => h (by rw [e]; exact List.mem_cons_self)
    have h2 : v ∉ a := fun e => h (List.mem_cons_of_mem _ e)
    have hb := idxI_ge b v
    rw [List.cons_append, idxI, if_neg h1, ih h2, List.length_cons]
    split
    · simp
    · rw [if_neg (by omega)]; omega
theorem idxI_at (a b : List Int) (v : Int) (h : v ∉ a) : idxI (a ++ v :: b) v = a.length := by
  rw [idxI_app a _ v h, idxI, if_pos rfl]; simp
theorem idxI_none (a : List Int) (v : Int) (h : v ∉ a) : idxI a v = -1 := by
  have := idxI_app a [] v h
  simpa [idxI] using this

theorem first_of {xs : List Int} {v : Int} (h : v ∈ xs) : ∃ a b, xs = a ++ v :: b ∧ v ∉ a := by
  induction xs with
  | nil => cases h
  | cons x xs ih =>
    by_cases e : x = v
    · exact ⟨[], xs, by rw [e]; rfl, by simp⟩
    · have h' : v ∈ xs := by
        rcases List.mem_cons.1 h with h | h
        · exact absurd h.symm e
        · exact h
      obtain ⟨a, b, rfl, ha⟩ := ih h'
      exact ⟨x :: a, b, rfl, by
        intro hm
        rcases List.mem_cons.1 hm with hm | hm
        · exact e hm.symm
        · exact ha hm⟩

def sizesI : List Int := sizesL.map fun (n : Nat) => (n : Int)
theorem idx_sizes {n : Nat} (h : n ∈ sizesL) : idxI sizesI (n : Int) = ((sizesL.idxOf n : Nat) : Int) ∧ sizesL.idxOf n < 16 := by
  have : ∀ m ∈ sizesL, idxI sizesI (m : Int) = ((sizesL.idxOf m : Nat) : Int) ∧ sizesL.idxOf m < 16 := by decide +kernel
  exact this n h
end Bw
end Go.Proofs.YtacfkdgepknpkalDoor

/- What the small functions of package frame answer: the greatest numbers, a bit, the code of a number of bytes. -/
namespace Go.Proofs.YtacfkdgepknpkalDoor
open Go.ChangeShapes Go.WideShapes Go.ChangeAt Go.RowKit
namespace Bw
open Bm Cm

/-- the table of the numbers of bytes -/
def SizesAt (w : World) : Prop := IntsAt w 1 sizesI
theorem SizesAt.kept {w w' : World} (h : SizesAt w) (hb : Below w.heap.size w w') : SizesAt w' := fun i hi => cell_kept hb (h i hi)
set_option maxHeartbeats 1000000 in
theorem maxID_any (lo : Bool) (w : World) :
    Calls Tryd.prog 20 #[.bool lo] w fun e w' => e = .returned (.int .i64 (topI lo)) ∧ w' = w := by
  cases lo <;> (go_enter Tryd.func20, Tryd.ntmps20; go_wp2_with fail; go_ret; exact ⟨rfl, rfl⟩)
def topDI (fa : Bool) : Int := if fa then 64 else 8
set_option maxHeartbeats 1000000 in
theorem maxData_any (fa : Bool) (w : World) :
    Calls Tryd.prog 21 #[.bool fa] w fun e w' => e = .returned (.int .i64 (topDI fa)) ∧ w' = w := by
  cases fa <;> (go_enter Tryd.func21, Tryd.ntmps21; go_wp2_with fail; go_ret; exact ⟨rfl, rfl⟩)
theorem mem_take_succ (n : Int) (j : Nat) (hj : j < 16) (h : n ∉ sizesI.take j) (hn : n ≠ sizesI.getD j 0) : n ∉ sizesI.take (j + 1) := by
  have hl : j < sizesI.length := hj
  rw [List.take_succ_eq_append_getElem hl, List.mem_append, List.mem_singleton]
  rintro (h' | h')
  · exact h h'
  · exact hn (by rw [h']; simp [List.getD, hl])
theorem idx_at (n : Int) (j : Nat) (hj : j < 16) (h : n ∉ sizesI.take j) (hn : n = sizesI.getD j 0) : idxI sizesI n = j := by
  have hl : j < sizesI.length := hj
  have e1 : sizesI = sizesI.take j ++ sizesI.drop j := (List.take_append_drop j sizesI).symm
  have e2 : sizesI.drop j = n :: sizesI.drop (j + 1) := by rw [List.drop_eq_getElem_cons hl, hn]; simp [List.getD, hl]
  have e3 := idxI_at (sizesI.take j) (sizesI.drop (j + 1)) n h
  rw [← e2, ← e1, List.length_take] at e3
  omega
theorem sizes_index (j : Nat) (hj : j < 16) (W : World) : (Instr.index 63 (.agg #[.int .i64 0, .int .i64 1, .int .i64 2, .int .i64 3, .int .i64 4, .int .i64 5, .int .i64 6, .int .i64 7, .int .i64 8, .int .i64 12, .int .i64 16, .int .i64 20, .int .i64 24, .int .i64 32, .int .i64 48, .int .i64 64]) (.int .i64 (j : Int))).run Tryd.prog W = .ok (.int .i64 (sizesI.getD j 0)) W := by
  match j, hj with
  | 0, _ => (show _ = _); kernel_rfl
  | 1, _ => (show _ = _); kernel_rfl
  | 2, _ => (show _ = _); kernel_rfl
  | 3, _ => (show _ = _); kernel_rfl
  | 4, _ => (show _ = _); kernel_rfl
  | 5, _ => (show _ = _); kernel_rfl
  | 6, _ => (show _ = _); kernel_rfl
  | 7, _ => (show _ = _); kernel_rfl
  | 8, _ => (show _ = _); kernel_rfl
  | 9, _ => (show _ = _); kernel_rfl
  | 10, _ => (show _ = _); kernel_rfl
  | 11, _ => (show _ = _); kernel_rfl
  | 12, _ => (show _ = _); kernel_rfl
  | 13, _ => (show _ = _); kernel_rfl
  | 14, _ => (show _ = _); kernel_rfl
  | 15, _ => (show _ = _); kernel_rfl
  | n + 16, h => exact absurd h (by omega)
set_option maxHeartbeats 4000000 in
theorem codeOf_any (n : Int) (w : World) (hS : SizesAt w) :
    Calls Tryd.prog 22 #[.int .i64 n] w fun e w' => e = .returned (.int .i64 (idxI sizesI n)) ∧ w' = w := by
  have c0 : w.cell? ⟨1, 0, none⟩ = some (.int .i64 0) := hS 0 (by decide)
  have c1 : w.cell? ⟨1, 1, none⟩ = some (.int .i64 1) := hS 1 (by decide)
  have c2 : w.cell? ⟨1, 2, none⟩ = some (.int .i64 2) := hS 2 (by decide)
  have c3 : w.cell? ⟨1, 3, none⟩ = some (.int .i64 3) := hS 3 (by decide)
  have c4 : w.cell? ⟨1, 4, none⟩ = some (.int .i64 4) := hS 4 (by decide)
  have c5 : w.cell? ⟨1, 5, none⟩ = some (.int .i64 5) := hS 5 (by decide)
  have c6 : w.cell? ⟨1, 6, none⟩ = some (.int .i64 6) := hS 6 (by decide)
  have c7 : w.cell? ⟨1, 7, none⟩ = some (.int .i64 7) := hS 7 (by decide)
  have c8 : w.cell? ⟨1, 8, none⟩ = some (.int .i64 8) := hS 8 (by decide)
  have c9 : w.cell? ⟨1, 9, none⟩ = some (.int .i64 12) := hS 9 (by decide)
  have c10 : w.cell? ⟨1, 10, none⟩ = some (.int .i64 16) := hS 10 (by decide)
  have c11 : w.cell? ⟨1, 11, none⟩ = some (.int .i64 20) := hS 11 (by decide)
  have c12 : w.cell? ⟨1, 12, none⟩ = some (.int .i64 24) := hS 12 (by decide)
  have c13 : w.cell? ⟨1, 13, none⟩ = some (.int .i64 32) := hS 13 (by decide)
  have c14 : w.cell? ⟨1, 14, none⟩ = some (.int .i64 48) := hS 14 (by decide)
  have c15 : w.cell? ⟨1, 15, none⟩ = some (.int .i64 64) := hS 15 (by decide)
  clear hS
  go_enter Tryd.func22, Tryd.ntmps22
  set_option maxRecDepth 100000 in
  go_wp2_with fail
  clear c0 c1 c2 c3 c4 c5 c6 c7 c8 c9 c10 c11 c12 c13 c14 c15
  go_loopw [6] (fun i wr => ∃ j : Nat, j ≤ 16 ∧ i = .int .i64 j ∧ Hid (n ∉ sizesI.take j) ∧ wr = w) (fun i _ => 16 - (intOf i).toNat)
  case atStart => exact ⟨0, Nat.zero_le _, rfl, Hid.mk (by simp), rfl⟩
  case round =>
    obtain ⟨j, hj, rfl, HV, hwr⟩ := hrel
    subst hwr
    by_cases hlt : j < 16
    · have hlt' : (j : Int) < 16 := by omega
      have hix := sizes_index j hlt
      by_cases he : sizesI.getD j 0 = n
      · have hb : (sizesI.getD j 0 == n) = true := by rw [he]; simp
        have HRES := Hid.mk (idx_at n j hlt HV.out he.symm)
        clear he
        generalize sizesI.getD j 0 = y at *
        go_wp2_with fail
        go_ret
        exact ⟨by rw [HRES.out]; rfl, rfl⟩
      · have hb : (sizesI.getD j 0 == n) = false := by simpa using he
        have HNX := Hid.mk (mem_take_succ n j hlt HV.out (fun h => he h.symm))
        clear he
        generalize sizesI.getD j 0 = y at *
        go_wp2_with fail
        go_roundw
        case rel => exact ⟨j + 1, by omega, by go_num, HNX, by first | rfl | trivial⟩
        case measure => simp [intOf]; omega
    · have e : j = 16 := by omega
      subst e
      have hres : idxI sizesI n = -1 := idxI_none sizesI n HV.out
      have HRES := Hid.mk hres
      clear hres
      go_wp2_with fail
      go_ret
      exact ⟨by rw [HRES.out]; rfl, rfl⟩
end Bw
end Go.Proofs.YtacfkdgepknpkalDoor

/- What frame.bit answers. -/
namespace Go.Proofs.YtacfkdgepknpkalDoor
open Go.ChangeShapes Go.WideShapes Go.ChangeAt Go.RowKit
namespace Bw
open Bm Cm
set_option maxHeartbeats 1000000 in
theorem frBit_any (r : Bool) (w : World) :
    Calls Tryd.prog 40 #[.bool r] w fun e w' => e = .returned (.string ⟨#[bitB r]⟩) ∧ w' = w := by
  cases r <;> (go_enter Tryd.func40, Tryd.ntmps40; go_wp2_with fail; go_ret; exact ⟨rfl, rfl⟩)
end Bw
end Go.Proofs.YtacfkdgepknpkalDoor

/- What the reader's method readData does. -/
namespace Go.Proofs.YtacfkdgepknpkalDoor
open Go.ChangeShapes Go.WideShapes Go.ChangeAt Go.RowKit
namespace Bw
open Bm Cm Go.Sort

theorem isBytes_ownP {w : World} {base : Nat} {v : Value} {n : Nat} {l : List UInt8} (h : w.ownsRow base 5 1 v n (cellsOf l)) :
    ∃ a cap, v = .slice a n cap ∧ IsBytes w a n cap l ∧ ∀ x, a = some x → base ≤ x.block := by
  have h0 := h
  obtain ⟨hl, h2⟩ := h
  have hn : l.length = n := by simpa [cellsOf] using hl
  rcases h2 with ⟨rfl, h1⟩ | ⟨g, cap, cur, rfl, hg, hh, hc, hm, hsz, htk⟩
  · subst h1; exact ⟨none, 0, rfl, ⟨hn, Nat.le_refl _, Nat.zero_le _, (fun _ => rfl), (fun x hx => by cases hx)⟩, fun x hx => by cases hx⟩
  · refine ⟨some ⟨g, 0, none⟩, cap, rfl, ⟨hn, hc, hm, (fun h => by cases h), fun x hx i hi => ?_⟩, fun x hx => by cases hx; exact hg⟩
    cases hx
    exact h0.cells rfl i _ (by simp [cellsOf, hn, hi])
/-- what lies in a reader's field Data, apart from the reader -/
def DataAt (w : World) (g : Nat) (d : Value) (l : List UInt8) : Prop := ∃ a len cap, d = .slice a len cap ∧ IsBytes w a len cap l ∧ ∀ x, a = some x → g < x.block
theorem DataAt.tch {w w' : World} {g : Nat} {d : Value} {l : List UInt8} (h : DataAt w g d l) (ht : Tch [g] w w') : DataAt w' g d l := by
  obtain ⟨a, len, cap, hd, hb, hg⟩ := h
  refine ⟨a, len, cap, hd, ⟨hb.1, hb.2.1, hb.2.2.1, hb.2.2.2.1, fun x hx i hi => ?_⟩, hg⟩
  have hv := hb.2.2.2.2 x hx i hi
  have hlt := block_lt_of_cell hv
  have hblk : (x.add i).block = x.block := by unfold Addr.add; split <;> rfl
  have hne : (x.add i).block ∉ [g] := by rw [hblk]; have := hg x hx; simp; omega
  unfold World.cell? at hv ⊢
  rw [ht.block _ hlt hne]
  exact hv
theorem SizesAt.tch {w w' : World} {g : Nat} (h : SizesAt w) (ht : Tch [g] w w') (hg : 1 ≠ g) : SizesAt w' := by
  intro i hi
  have hv := h i hi
  have hlt : 1 < w.heap.size := block_lt_of_cell hv
  unfold World.cell? at hv ⊢
  rw [ht.block _ hlt (by simpa using hg)]
  exact hv
theorem sizes_nat (k : Nat) (h : k < 16) : sizesI.getD k 0 = ((sizesL.getD k 0 : Nat) : Int) ∧ sizesL.getD k 0 ≤ 64 := by
  have : ∀ m : Fin 16, sizesI.getD m.val 0 = ((sizesL.getD m.val 0 : Nat) : Int) ∧ sizesL.getD m.val 0 ≤ 64 := by decide +kernel
  exact this ⟨k, h⟩
theorem topD_I (fa : Bool) : topDI fa = (topD fa : Int) := by cases fa <;> rfl
theorem take_eight (b : List UInt8) (S : RS) (D : Nat) : ∃ m, (takeP b S (8 * D)).1.length = 8 * m ∧ m ≤ D := by
  rcases takeP_len b S (8 * D) with h | h
  · exact ⟨D, h, Nat.le_refl _⟩
  · exact ⟨0, by rw [h]; rfl, Nat.zero_le _⟩

set_option maxHeartbeats 8000000 in
theorem readData_any (g : Nat) (b : ByteArray) (S : RS) (id : Int) (lo fa re : Bool) (n : Nat) (w : World) (h : RdAt w g b S ⟨id, lo, fa, re, 0, .slice none 0 0⟩) (hS : SizesAt w) (hg : 1 ≠ g) (hc : checkE b.data.toList = 0) (hi : Inv b.data.toList S n) (hn : n ≤ 400) :
    Calls Tryd.prog 35 #[.pointer (some ⟨g, 0, none⟩)] w fun e w' =>
      e = .returned (.tuple #[]) ∧ ∃ d, RdAt w' g b (dataP b.data.toList S fa re).S ⟨id, lo, fa, re, (dataP b.data.toList S fa re).sz, d⟩ ∧ DataAt w' g d (dataP b.data.toList S fa re).dt ∧ Tch [g] w w' := by
  have hrow := (small_of_check hc).2
  have i1 : Inv b.data.toList (numP b.data.toList S 4).2 (n + 4) := hi.num hrow 4
  have i2 : Inv b.data.toList (dt2 b.data.toList S fa) (n + 4) := by unfold dt2; split; exact i1.fail 4; exact i1
  have hN := numP_lt b.data.toList hrow S 4
  obtain ⟨hsz1, hsz2⟩ := sizes_nat (numP b.data.toList S 4).1 hN
  have a1 : ∀ (W : World) (F : Fd), RdAt W g b S F → _ := fun W F hW => numb_any g 4 b S F W hW hc (by have := hi.n; omega) (by omega)
  have a2 : ∀ (W : World) (F : Fd), RdAt W g b (numP b.data.toList S 4).2 F → _ := fun W F hW => fail_any g b _ F 4 W hW
  have hD : sizesL.getD (numP b.data.toList S 4).1 0 = dtN b.data.toList S := rfl
  rw [hD] at hsz1 hsz2
  have a3 : ∀ (W : World) (F : Fd), RdAt W g b (dt2 b.data.toList S fa) F → _ := fun W F hW => take_any g (8 * dtN b.data.toList S) b _ F W hW hc (by have := i2.n; omega)
  have hq2 : dt2 b.data.toList S fa = if topD fa < dtN b.data.toList S then failP (numP b.data.toList S 4).2 4 else (numP b.data.toList S 4).2 := rfl
  have hTr := takeP_row b.data.toList hrow (dt2 b.data.toList S fa) (8 * dtN b.data.toList S)
  obtain ⟨m, hm1, hm2⟩ := take_eight b.data.toList (dt2 b.data.toList S fa) (dtN b.data.toList S)
  have hsc : ∀ W, SizesAt W → W.cell? ⟨1, (numP b.data.toList S 4).1, none⟩ = some (.int .i64 (dtN b.data.toList S : Int)) := fun W hW => by
    have := hW (numP b.data.toList S 4).1 hN
    rw [hsz1] at this
    exact this
  unfold dataP
  generalize dtN b.data.toList S = D at *
  generalize numP b.data.toList S 4 = NN at *
  generalize dt2 b.data.toList S fa = S2 at *
  obtain ⟨N, S1⟩ := NN
  simp only at a1 a2 hN hq2 hsc ⊢
  have HS := Hid.mk hS
  have HA1 := Hid.mk a1
  have HA2 := Hid.mk a2
  have HA3 := Hid.mk a3
  have H := Hid.mk h
  have HSC := Hid.mk hsc
  have HG := Hid.mk hg
  have N16 : (N : Int) < 16 := by omega
  have D64 : (D : Int) ≤ 64 := by omega
  have htd := topD_I fa
  have hmd := fun W => maxData_any fa W
  have HMD := Hid.mk hmd
  have nS : DataAt w g (.slice none 0 0) [] := ⟨none, 0, 0, rfl, ⟨rfl, Nat.le_refl _, Nat.zero_le _, fun _ => rfl, fun x hx => by cases hx⟩, fun x hx => by cases hx⟩
  have HNS := Hid.mk nS
  clear a1 a2 a3 hS h hsc hrow i1 i2 hi hn hD hsz1 hsz2 hg nS hmd hN
  cases re
  · simp only [Bool.false_eq_true, if_false]
    generalize takeP b.data.toList S2 (8 * D) = A at *
    obtain ⟨t, S3⟩ := A
    simp only at HA3 hTr hm1 ⊢
    have lT := mk_list t
    generalize ByteArray.mk t.toArray = T at *
    have hby := fun W => bytes_ok T W (checkE_row (by rw [lT]; exact hTr) (by rw [lT, hm1]; omega)) m (by rw [ba_size lT, hm1])
    rw [lT] at hby
    have HBY := Hid.mk hby
    clear hby lT hTr
    have m64 : m ≤ 64 := by omega
    clear hm1 hm2
    by_cases hlt : topD fa < D
    · rw [if_pos hlt] at hq2
      have hcmp : topDI fa < (D : Int) := by rw [htd]; omega
      clear htd hlt
      go_enter Tryd.func35, Tryd.ntmps35
      go_wp2_with fail
      refine (HA1.out _ _ H.out).mono ?_
      rintro e w1 ⟨rfl, h1, t1⟩
      have cN := HSC.out _ (HS.out.tch t1 HG.out)
      have k6 := h1.c6
      have k7 := h1.c7
      have H1 := Hid.mk h1
      have T1 := Hid.mk t1
      clear h1 t1 H HA1
      go_wp2_with fail
      refine (HMD.out _).mono ?_
      rintro e w2 ⟨rfl, hw2⟩
      subst hw2
      clear HMD
      go_wp2_with fail
      refine (HA2.out _ _ H1.out).mono ?_
      rintro e w3 ⟨rfl, h3, t3⟩
      rw [← hq2] at h3
      have k7' := h3.c7
      have k8' := h3.c8
      have z8' := h3.z 8
      have k9' := h3.c9
      have z9' := h3.z 9
      have H3 := Hid.mk h3
      have T3 := Hid.mk (T1.out.trans t3)
      clear h3 t3 k6 k7 cN
      go_wp2_with fail
      rw [show (D : Int) * 8 = ((8 * D : Nat) : Int) by omega]
      refine (HA3.out _ _ H3.out).mono ?_
      rintro e w4 ⟨rfl, h4, t4⟩
      have T4 := Hid.mk (T3.out.trans t4)
      have kk9 := h4.c9
      have zz9 := h4.z 9
      have H4 := Hid.mk h4
      clear t4 h4 k7' k8' z8' k9' z9' H3 T3
      go_wp2_with fail
      refine (HBY.out _).mono ?_
      rintro e w5 ⟨v, rfl, hown, hb5⟩
      have h5 := H4.out.kept hb5
      obtain ⟨a, cap, rfl, hbv, hblk⟩ := isBytes_ownP hown
      have hlt := H4.out.lt
      have kc9 := h5.c9
      have zc9 := h5.z 9
      have T5 := Hid.mk ((T4.out.trans (Tch.of hb5)))
      have HD5 := Hid.mk (show DataAt w5 g (.slice a m cap) (bytesL t) from ⟨a, m, cap, rfl, hbv, fun x hx => by have := hblk x hx; omega⟩)
      have H5 := Hid.mk h5
      clear h5 hown hb5 hbv hblk hlt kk9 zz9
      go_wp2_with fail
      go_end0
      exact ⟨rfl, _, H5.out.setD _, HD5.out.tch ((Tch.refl _ _).setK (by simp) _ _), T5.out.setK (by simp) _ _⟩
    · rw [if_neg hlt] at hq2
      have hcmp : (D : Int) ≤ topDI fa := by rw [htd]; omega
      subst hq2
      clear htd hlt
      go_enter Tryd.func35, Tryd.ntmps35
      go_wp2_with fail
      refine (HA1.out _ _ H.out).mono ?_
      rintro e w1 ⟨rfl, h1, t1⟩
      have cN := HSC.out _ (HS.out.tch t1 HG.out)
      have k6 := h1.c6
      have k7 := h1.c7
      have k8' := h1.c8
      have z8' := h1.z 8
      have k9' := h1.c9
      have z9' := h1.z 9
      have H1 := Hid.mk h1
      have T1 := Hid.mk t1
      clear h1 t1 H HA1
      go_wp2_with fail
      refine (HMD.out _).mono ?_
      rintro e w2 ⟨rfl, hw2⟩
      subst hw2
      clear HMD
      go_wp2_with fail
      have H3 := H1
      have T3 := T1
      rw [show (D : Int) * 8 = ((8 * D : Nat) : Int) by omega]
      refine (HA3.out _ _ H3.out).mono ?_
      rintro e w4 ⟨rfl, h4, t4⟩
      have T4 := Hid.mk (T3.out.trans t4)
      have kk9 := h4.c9
      have zz9 := h4.z 9
      have H4 := Hid.mk h4
      clear t4 h4 k6 k7 cN k8' z8' k9' z9' H3 T3 H1 T1
      go_wp2_with fail
      refine (HBY.out _).mono ?_
      rintro e w5 ⟨v, rfl, hown, hb5⟩
      have h5 := H4.out.kept hb5
      obtain ⟨a, cap, rfl, hbv, hblk⟩ := isBytes_ownP hown
      have hlt := H4.out.lt
      have kc9 := h5.c9
      have zc9 := h5.z 9
      have T5 := Hid.mk ((T4.out.trans (Tch.of hb5)))
      have HD5 := Hid.mk (show DataAt w5 g (.slice a m cap) (bytesL t) from ⟨a, m, cap, rfl, hbv, fun x hx => by have := hblk x hx; omega⟩)
      have H5 := Hid.mk h5
      clear h5 hown hb5 hbv hblk hlt kk9 zz9
      go_wp2_with fail
      go_end0
      exact ⟨rfl, _, H5.out.setD _, HD5.out.tch ((Tch.refl _ _).setK (by simp) _ _), T5.out.setK (by simp) _ _⟩
  · simp only [if_true]
    clear HA3 hTr hm1 hm2
    by_cases hlt : topD fa < D
    · rw [if_pos hlt] at hq2
      have hcmp : topDI fa < (D : Int) := by rw [htd]; omega
      clear htd hlt
      go_enter Tryd.func35, Tryd.ntmps35
      go_wp2_with fail
      refine (HA1.out _ _ H.out).mono ?_
      rintro e w1 ⟨rfl, h1, t1⟩
      have cN := HSC.out _ (HS.out.tch t1 HG.out)
      have k6 := h1.c6
      have k7 := h1.c7
      have H1 := Hid.mk h1
      have T1 := Hid.mk t1
      clear h1 t1 H HA1
      go_wp2_with fail
      refine (HMD.out _).mono ?_
      rintro e w2 ⟨rfl, hw2⟩
      subst hw2
      clear HMD
      go_wp2_with fail
      refine (HA2.out _ _ H1.out).mono ?_
      rintro e w3 ⟨rfl, h3, t3⟩
      rw [← hq2] at h3
      have k7' := h3.c7
      have k8' := h3.c8
      have z8' := h3.z 8
      have k9' := h3.c9
      have z9' := h3.z 9
      have H3 := Hid.mk h3
      have T3 := Hid.mk (T1.out.trans t3)
      clear h3 t3 k6 k7 cN
      go_wp2_with fail
      (try simp only [Exit.inBlock, Exit.then]); refine bodyPost_ret (results_none rfl _ _ _) rfl ?_
      exact ⟨rfl, _, H3.out.setSz (D : Int), HNS.out.tch (T3.out.setK (by simp) 8 (.int .i64 D)), T3.out.setK (by simp) _ _⟩
    · rw [if_neg hlt] at hq2
      have hcmp : (D : Int) ≤ topDI fa := by rw [htd]; omega
      subst hq2
      clear htd hlt
      go_enter Tryd.func35, Tryd.ntmps35
      go_wp2_with fail
      refine (HA1.out _ _ H.out).mono ?_
      rintro e w1 ⟨rfl, h1, t1⟩
      have cN := HSC.out _ (HS.out.tch t1 HG.out)
      have k6 := h1.c6
      have k7 := h1.c7
      have k8' := h1.c8
      have z8' := h1.z 8
      have k9' := h1.c9
      have z9' := h1.z 9
      have H1 := Hid.mk h1
      have T1 := Hid.mk t1
      clear h1 t1 H HA1
      go_wp2_with fail
      refine (HMD.out _).mono ?_
      rintro e w2 ⟨rfl, hw2⟩
      subst hw2
      clear HMD
      go_wp2_with fail
      have H3 := H1
      have T3 := T1
      (try simp only [Exit.inBlock, Exit.then]); refine bodyPost_ret (results_none rfl _ _ _) rfl ?_
      exact ⟨rfl, _, H3.out.setSz (D : Int), HNS.out.tch (T3.out.setK (by simp) 8 (.int .i64 D)), T3.out.setK (by simp) _ _⟩
end Bw
end Go.Proofs.YtacfkdgepknpkalDoor

/- What unfixed answers. -/
namespace Go.Proofs.YtacfkdgepknpkalDoor
open Go.ChangeShapes Go.WideShapes Go.ChangeAt Go.RowKit
namespace Bw
open Bm Cm

theorem unfixL_snoc : ∀ (x : List UInt8) (j : Nat) (c : UInt8), unfixL (x ++ [c]) j = unfixL x j ++ (if (j + x.length) % 5 = 0 then [] else [c])
  | [], j, c => by simp only [List.nil_append, unfixL, List.length_nil, Nat.add_zero]
  | d :: x, j, c => by
    rw [List.cons_append, unfixL, unfixL, unfixL_snoc x (j + 1) c, List.length_cons, show j + 1 + x.length = j + (x.length + 1) by omega]
    split <;> simp
theorem unfixL_len : ∀ (x : List UInt8) (j : Nat), (unfixL x j).length ≤ x.length
  | [], _ => Nat.le_refl _
  | d :: x, j => by
    have := unfixL_len x (j + 1)
    rw [unfixL]; split <;> simp <;> omega
theorem unfixL_row : ∀ (x : List UInt8) (j : Nat), rowB x = true → rowB (unfixL x j) = true
  | [], _, _ => rfl
  | d :: x, j, h => by
    have h' : bit d = true ∧ rowB x = true := by simpa [rowB] using h
    have := unfixL_row x (j + 1) h'.2
    rw [unfixL]
    split
    · exact this
    · simp [rowB] at this ⊢
      exact ⟨h'.1, this⟩
set_option maxHeartbeats 4000000 in
set_option maxRecDepth 100000 in
theorem unfixed_any (s : ByteArray) (w : World) (hs : s.size ≤ 1000) :
    Calls Tryd.prog 51 #[.string s] w fun e w' => e = .returned (.string ⟨(unfixL s.data.toList 0).toArray⟩) ∧ Below w.heap.size w w' := by
  obtain ⟨i0, hi, hz0, hz1, hz2⟩ := info_parts info_u8
  have hll : s.data.toList.length = s.size := by simp
  have HLL := Hid.mk hll
  clear hll
  go_enter Tryd.func51, Tryd.ntmps51
  go_wp2_with fail
  go_loopw [3, 7] (fun r i wr => ∃ k : Nat, k ≤ s.size ∧ i = .int .i64 k ∧ wr.ownsRow w.heap.size 5 1 r (unfixL (s.data.toList.take k) 0).length (cellsOf (unfixL (s.data.toList.take k) 0)) ∧ Below w.heap.size w wr) (fun _ i _ => s.size - (intOf i).toNat)
  case atStart => exact ⟨0, Nat.zero_le _, rfl, World.ownsRow_nil _ _ _ _, Below.refl _ _⟩
  case round =>
    obtain ⟨k, hk, rfl, hown, hbel⟩ := hrel
    by_cases hlt : k < s.size
    · have hlt' : (k : Int) < (s.size : Int) := by omega
      obtain ⟨c, hcE⟩ : ∃ c, c = s[k] := ⟨_, rfl⟩
      have hgd : s.data.toList.getD k 0 = c := by rw [hcE, at_getD s k hlt]
      have hcv : s[k] = c := hcE.symm
      have hnx : unfixL (s.data.toList.take (k + 1)) 0 = unfixL (s.data.toList.take k) 0 ++ (if k % 5 = 0 then [] else [c]) := by
        rw [take_snocL _ _ (by rw [HLL.out]; exact hlt), unfixL_snoc, hgd, List.length_take, HLL.out, Nat.zero_add, Nat.min_eq_left hk]
      have hol := unfixL_len (s.data.toList.take k) 0
      rw [List.length_take, HLL.out] at hol
      generalize unfixL (s.data.toList.take k) 0 = o at *
      have hol2 : o.length ≤ 1000 := by omega
      have HNX := Hid.mk hnx
      clear hcE hgd hnx hol
      by_cases h5 : k % 5 = 0
      · have hm : (k : Int).tmod 5 = 0 := by rw [Int.tmod_eq_emod_of_nonneg (by omega)]; omega
        have HO := Hid.mk hown
        clear hown
        go_wp2_with fail
        go_roundw
        case rel => exact ⟨k + 1, by omega, by go_num, by rw [HNX.out, if_pos h5, List.append_nil]; exact HO.out, hbel⟩
        case measure => simp [intOf]; omega
      · have hm : ((k : Int).tmod 5 != 0) = true := by rw [Int.tmod_eq_emod_of_nonneg (by omega)]; simp; omega
        have hm2 : ((k : Int).tmod 5 == 0) = false := by rw [Int.tmod_eq_emod_of_nonneg (by omega)]; rw [beq_eq_false_iff_ne]; omega
        have hm3 : ¬ (k : Int).tmod 5 = 0 := by simpa using hm
        have hsz := hbel.size
        go_wp2_with (at_builtin; refine wpList_append_own _ rfl (.tmp 13) (.tmp 17) 22 rfl w.heap.size 5 i0 (.int .u8 0) 1 1 Tryd.underlying22 hi hz0 hz1 hz2 rfl (by decide) _ _ _ rfl (hown.alloc _) ⟨wr.heap.size, 0, none⟩ 1 1 [Value.int .u8 c.toNat] rfl rfl (by intro q u hq; match q, hq with | 0, hq => (simp at hq; subst hq; simp [Addr.add])) (by intro u hu; simp at hu; subst hu; rfl) (by unfold maxLen; omega) (by omega) (by simp; omega) ?_; intro v1 w3 hown1 hgrow1 _)
        have hbw3 : Below w.heap.size wr w3 := Below.grown ((Below.refl _ _).alloc hsz _) hgrow1 (by simp; omega) (fun q hq => (hown.lt q hq).1)
        have hbel3 := hbel.trans hbw3
        have hown1' : w3.ownsRow w.heap.size 5 1 v1 (o ++ [c]).length (cellsOf (o ++ [c])) := by
          rw [cellsOf_append, List.length_append]; exact hown1
        have HO := Hid.mk hown1'
        clear hown hown1 hown1' hgrow1 hbw3 hbel hsz
        go_wp2_with fail
        go_roundw
        case rel => exact ⟨k + 1, by omega, by go_num, by rw [HNX.out, if_neg h5]; exact HO.out, hbel3⟩
        case measure => simp [intOf]; omega
    · have e : k = s.size := by omega
      subst e
      rw [List.take_of_length_le (by rw [HLL.out]; exact Nat.le_refl _)] at hown
      have hcv := convert_own hown
      clear hown
      go_wp2_with fail
      go_ret
      exact ⟨rfl, hbel⟩
end Bw
end Go.Proofs.YtacfkdgepknpkalDoor

/- Contracts of Go's library that the kit proves once, laid at this program: no walk, one application each. -/
namespace Go.Proofs
open Go.Shelf
def Tryd.lays138_ren : Go.Shelf.Ren := ⟨fun | 138 => 44 | 195 => 52 | 218 => 53 | 143 => 54 | 219 => 58 | 217 => 60 | 225 => 61 | 224 => 62 | 267 => 63 | 266 => 64 | 314 => 65 | n => n, fun | 9 => 9 | 3 => 3 | 4 => 4 | 5 => 5 | 0 => 0 | 46 => 62 | 146 => 84 | 51 => 83 | n => n, fun | 1 => 2 | n => n⟩
theorem Tryd.lays138 : Go.Proofs.Lays.n138 Tryd.prog Tryd.lays138_ren := {
  mixed := by kernel_rfl
  f138 := Tryd.func44.trans (congrArg some (by kernel_rfl))
  f143 := Tryd.func54.trans (congrArg some (by kernel_rfl))
  f195 := Tryd.func52.trans (congrArg some (by kernel_rfl))
  f217 := Tryd.func60.trans (congrArg some (by kernel_rfl))
  f218 := Tryd.func53.trans (congrArg some (by kernel_rfl))
  f219 := Tryd.func58.trans (congrArg some (by kernel_rfl))
  f224 := Tryd.func62.trans (congrArg some (by kernel_rfl))
  f225 := Tryd.func61.trans (congrArg some (by kernel_rfl))
  f266 := Tryd.func64.trans (congrArg some (by kernel_rfl))
  f267 := Tryd.func63.trans (congrArg some (by kernel_rfl))
  f314 := Tryd.func65.trans (congrArg some (by kernel_rfl))
  t0 := Tryd.underlying0
  a0 := Tryd.isAgg0
  z0 := Tryd.sizeOf0
  v0 := Tryd.zeroValue0
  t3 := Tryd.underlying3
  a3 := Tryd.isAgg3
  z3 := Tryd.sizeOf3
  v3 := Tryd.zeroValue3
  t4 := Tryd.underlying4
  a4 := Tryd.isAgg4
  z4 := Tryd.sizeOf4
  v4 := Tryd.zeroValue4
  t5 := Tryd.underlying5
  a5 := Tryd.isAgg5
  z5 := Tryd.sizeOf5
  v5 := Tryd.zeroValue5
  t9 := Tryd.underlying9
  a9 := Tryd.isAgg9
  z9 := Tryd.sizeOf9
  v9 := Tryd.zeroValue9
  t46 := Tryd.underlying62
  a46 := Tryd.isAgg62
  z46 := Tryd.sizeOf62
  v46 := Tryd.zeroValue62
  t51 := Tryd.underlying83
  a51 := Tryd.isAgg83
  z51 := Tryd.sizeOf83
  v51 := Tryd.zeroValue83
  t146 := Tryd.underlying84
  a146 := Tryd.isAgg84
  z146 := Tryd.sizeOf84
  v146 := Tryd.zeroValue84
  g1 := by kernel_rfl }
open Go.RowKit Go.Lib in
theorem Tryd.strings_Count_one (s : ByteArray) (c : UInt8) (w : World) :
    Calls Tryd.prog 44 #[.string s, .string ⟨#[c]⟩] w fun e w' => e = .returned (.int .i64 (Lib.countByte s.data.toList c)) ∧ w' = w := Any.strings_Count_one Tryd.lays138 s c w
end Go.Proofs

/- What frame.countOf answers. -/
namespace Go.Proofs.YtacfkdgepknpkalDoor
open Go.ChangeShapes Go.WideShapes Go.ChangeAt Go.RowKit
namespace Bw
open Bm Cm

set_option maxHeartbeats 1000000 in
theorem count_0 (p : Nat) (w : World) (h : (p : Int).tmod 8 = 0) :
    Calls Tryd.prog 31 #[.int .i64 p] w fun e w' => e = .returned (.string ⟨(grayL 0).toArray⟩) ∧ Below w.heap.size w w' := by
  have hx : bits .xor .i64 0 0 = 0 := by decide
  have hr := fun W => row_ok 0 3 W (by omega) (by omega)
  have hl : (bitsHead 0 3 3).toArray = #[48, 48, 48] := by decide
  rw [hl] at hr
  have hcn := fun W => Tryd.strings_Count_one ⟨#[48, 48, 48]⟩ 49 W
  have hc2 : Lib.countByte (ByteArray.mk #[48, 48, 48]).data.toList 49 = 0 := by decide
  rw [hc2] at hcn
  have HR := Hid.mk hr
  have HC := Hid.mk hcn
  clear hr hcn hc2 hl
  go_enter Tryd.func31, Tryd.ntmps31
  go_wp2_with fail
  try rw [hx]
  refine (HR.out _).mono ?_
  rintro e w1 ⟨rfl, hb1⟩
  clear HR
  go_wp2_with fail
  refine (HC.out _).mono ?_
  rintro e w2 ⟨rfl, hw⟩
  subst hw
  go_wp2_with fail
  refine (frBit_any false _).mono ?_
  rintro e w3 ⟨rfl, hw⟩
  subst hw
  go_wp2_with fail
  go_ret
  exact ⟨rfl, hb1⟩
set_option maxHeartbeats 1000000 in
theorem count_1 (p : Nat) (w : World) (h : (p : Int).tmod 8 = 1) :
    Calls Tryd.prog 31 #[.int .i64 p] w fun e w' => e = .returned (.string ⟨(grayL 1).toArray⟩) ∧ Below w.heap.size w w' := by
  have hx : bits .xor .i64 1 0 = 1 := by decide
  have hr := fun W => row_ok 1 3 W (by omega) (by omega)
  have hl : (bitsHead 1 3 3).toArray = #[48, 48, 49] := by decide
  rw [hl] at hr
  have hcn := fun W => Tryd.strings_Count_one ⟨#[48, 48, 49]⟩ 49 W
  have hc2 : Lib.countByte (ByteArray.mk #[48, 48, 49]).data.toList 49 = 1 := by decide
  rw [hc2] at hcn
  have HR := Hid.mk hr
  have HC := Hid.mk hcn
  clear hr hcn hc2 hl
  go_enter Tryd.func31, Tryd.ntmps31
  go_wp2_with fail
  try rw [hx]
  refine (HR.out _).mono ?_
  rintro e w1 ⟨rfl, hb1⟩
  clear HR
  go_wp2_with fail
  refine (HC.out _).mono ?_
  rintro e w2 ⟨rfl, hw⟩
  subst hw
  go_wp2_with fail
  refine (frBit_any true _).mono ?_
  rintro e w3 ⟨rfl, hw⟩
  subst hw
  go_wp2_with fail
  go_ret
  exact ⟨rfl, hb1⟩
set_option maxHeartbeats 1000000 in
theorem count_2 (p : Nat) (w : World) (h : (p : Int).tmod 8 = 2) :
    Calls Tryd.prog 31 #[.int .i64 p] w fun e w' => e = .returned (.string ⟨(grayL 2).toArray⟩) ∧ Below w.heap.size w w' := by
  have hx : bits .xor .i64 2 1 = 3 := by decide
  have hr := fun W => row_ok 3 3 W (by omega) (by omega)
  have hl : (bitsHead 3 3 3).toArray = #[48, 49, 49] := by decide
  rw [hl] at hr
  have hcn := fun W => Tryd.strings_Count_one ⟨#[48, 49, 49]⟩ 49 W
  have hc2 : Lib.countByte (ByteArray.mk #[48, 49, 49]).data.toList 49 = 2 := by decide
  rw [hc2] at hcn
  have HR := Hid.mk hr
  have HC := Hid.mk hcn
  clear hr hcn hc2 hl
  go_enter Tryd.func31, Tryd.ntmps31
  go_wp2_with fail
  try rw [hx]
  refine (HR.out _).mono ?_
  rintro e w1 ⟨rfl, hb1⟩
  clear HR
  go_wp2_with fail
  refine (HC.out _).mono ?_
  rintro e w2 ⟨rfl, hw⟩
  subst hw
  go_wp2_with fail
  refine (frBit_any false _).mono ?_
  rintro e w3 ⟨rfl, hw⟩
  subst hw
  go_wp2_with fail
  go_ret
  exact ⟨rfl, hb1⟩
set_option maxHeartbeats 1000000 in
theorem count_3 (p : Nat) (w : World) (h : (p : Int).tmod 8 = 3) :
    Calls Tryd.prog 31 #[.int .i64 p] w fun e w' => e = .returned (.string ⟨(grayL 3).toArray⟩) ∧ Below w.heap.size w w' := by
  have hx : bits .xor .i64 3 1 = 2 := by decide
  have hr := fun W => row_ok 2 3 W (by omega) (by omega)
  have hl : (bitsHead 2 3 3).toArray = #[48, 49, 48] := by decide
  rw [hl] at hr
  have hcn := fun W => Tryd.strings_Count_one ⟨#[48, 49, 48]⟩ 49 W
  have hc2 : Lib.countByte (ByteArray.mk #[48, 49, 48]).data.toList 49 = 1 := by decide
  rw [hc2] at hcn
  have HR := Hid.mk hr
  have HC := Hid.mk hcn
  clear hr hcn hc2 hl
  go_enter Tryd.func31, Tryd.ntmps31
  go_wp2_with fail
  try rw [hx]
  refine (HR.out _).mono ?_
  rintro e w1 ⟨rfl, hb1⟩
  clear HR
  go_wp2_with fail
  refine (HC.out _).mono ?_
  rintro e w2 ⟨rfl, hw⟩
  subst hw
  go_wp2_with fail
  refine (frBit_any true _).mono ?_
  rintro e w3 ⟨rfl, hw⟩
  subst hw
  go_wp2_with fail
  go_ret
  exact ⟨rfl, hb1⟩
set_option maxHeartbeats 1000000 in
theorem count_4 (p : Nat) (w : World) (h : (p : Int).tmod 8 = 4) :
    Calls Tryd.prog 31 #[.int .i64 p] w fun e w' => e = .returned (.string ⟨(grayL 4).toArray⟩) ∧ Below w.heap.size w w' := by
  have hx : bits .xor .i64 4 2 = 6 := by decide
  have hr := fun W => row_ok 6 3 W (by omega) (by omega)
  have hl : (bitsHead 6 3 3).toArray = #[49, 49, 48] := by decide
  rw [hl] at hr
  have hcn := fun W => Tryd.strings_Count_one ⟨#[49, 49, 48]⟩ 49 W
  have hc2 : Lib.countByte (ByteArray.mk #[49, 49, 48]).data.toList 49 = 2 := by decide
  rw [hc2] at hcn
  have HR := Hid.mk hr
  have HC := Hid.mk hcn
  clear hr hcn hc2 hl
  go_enter Tryd.func31, Tryd.ntmps31
  go_wp2_with fail
  try rw [hx]
  refine (HR.out _).mono ?_
  rintro e w1 ⟨rfl, hb1⟩
  clear HR
  go_wp2_with fail
  refine (HC.out _).mono ?_
  rintro e w2 ⟨rfl, hw⟩
  subst hw
  go_wp2_with fail
  refine (frBit_any false _).mono ?_
  rintro e w3 ⟨rfl, hw⟩
  subst hw
  go_wp2_with fail
  go_ret
  exact ⟨rfl, hb1⟩
set_option maxHeartbeats 1000000 in
theorem count_5 (p : Nat) (w : World) (h : (p : Int).tmod 8 = 5) :
    Calls Tryd.prog 31 #[.int .i64 p] w fun e w' => e = .returned (.string ⟨(grayL 5).toArray⟩) ∧ Below w.heap.size w w' := by
  have hx : bits .xor .i64 5 2 = 7 := by decide
  have hr := fun W => row_ok 7 3 W (by omega) (by omega)
  have hl : (bitsHead 7 3 3).toArray = #[49, 49, 49] := by decide
  rw [hl] at hr
  have hcn := fun W => Tryd.strings_Count_one ⟨#[49, 49, 49]⟩ 49 W
  have hc2 : Lib.countByte (ByteArray.mk #[49, 49, 49]).data.toList 49 = 3 := by decide
  rw [hc2] at hcn
  have HR := Hid.mk hr
  have HC := Hid.mk hcn
  clear hr hcn hc2 hl
  go_enter Tryd.func31, Tryd.ntmps31
  go_wp2_with fail
  try rw [hx]
  refine (HR.out _).mono ?_
  rintro e w1 ⟨rfl, hb1⟩
  clear HR
  go_wp2_with fail
  refine (HC.out _).mono ?_
  rintro e w2 ⟨rfl, hw⟩
  subst hw
  go_wp2_with fail
  refine (frBit_any true _).mono ?_
  rintro e w3 ⟨rfl, hw⟩
  subst hw
  go_wp2_with fail
  go_ret
  exact ⟨rfl, hb1⟩
set_option maxHeartbeats 1000000 in
theorem count_6 (p : Nat) (w : World) (h : (p : Int).tmod 8 = 6) :
    Calls Tryd.prog 31 #[.int .i64 p] w fun e w' => e = .returned (.string ⟨(grayL 6).toArray⟩) ∧ Below w.heap.size w w' := by
  have hx : bits .xor .i64 6 3 = 5 := by decide
  have hr := fun W => row_ok 5 3 W (by omega) (by omega)
  have hl : (bitsHead 5 3 3).toArray = #[49, 48, 49] := by decide
  rw [hl] at hr
  have hcn := fun W => Tryd.strings_Count_one ⟨#[49, 48, 49]⟩ 49 W
  have hc2 : Lib.countByte (ByteArray.mk #[49, 48, 49]).data.toList 49 = 2 := by decide
  rw [hc2] at hcn
  have HR := Hid.mk hr
  have HC := Hid.mk hcn
  clear hr hcn hc2 hl
  go_enter Tryd.func31, Tryd.ntmps31
  go_wp2_with fail
  try rw [hx]
  refine (HR.out _).mono ?_
  rintro e w1 ⟨rfl, hb1⟩
  clear HR
  go_wp2_with fail
  refine (HC.out _).mono ?_
  rintro e w2 ⟨rfl, hw⟩
  subst hw
  go_wp2_with fail
  refine (frBit_any false _).mono ?_
  rintro e w3 ⟨rfl, hw⟩
  subst hw
  go_wp2_with fail
  go_ret
  exact ⟨rfl, hb1⟩
set_option maxHeartbeats 1000000 in
theorem count_7 (p : Nat) (w : World) (h : (p : Int).tmod 8 = 7) :
    Calls Tryd.prog 31 #[.int .i64 p] w fun e w' => e = .returned (.string ⟨(grayL 7).toArray⟩) ∧ Below w.heap.size w w' := by
  have hx : bits .xor .i64 7 3 = 4 := by decide
  have hr := fun W => row_ok 4 3 W (by omega) (by omega)
  have hl : (bitsHead 4 3 3).toArray = #[49, 48, 48] := by decide
  rw [hl] at hr
  have hcn := fun W => Tryd.strings_Count_one ⟨#[49, 48, 48]⟩ 49 W
  have hc2 : Lib.countByte (ByteArray.mk #[49, 48, 48]).data.toList 49 = 1 := by decide
  rw [hc2] at hcn
  have HR := Hid.mk hr
  have HC := Hid.mk hcn
  clear hr hcn hc2 hl
  go_enter Tryd.func31, Tryd.ntmps31
  go_wp2_with fail
  try rw [hx]
  refine (HR.out _).mono ?_
  rintro e w1 ⟨rfl, hb1⟩
  clear HR
  go_wp2_with fail
  refine (HC.out _).mono ?_
  rintro e w2 ⟨rfl, hw⟩
  subst hw
  go_wp2_with fail
  refine (frBit_any true _).mono ?_
  rintro e w3 ⟨rfl, hw⟩
  subst hw
  go_wp2_with fail
  go_ret
  exact ⟨rfl, hb1⟩
theorem countOf_any (p : Nat) (w : World) :
    Calls Tryd.prog 31 #[.int .i64 p] w fun e w' => e = .returned (.string ⟨(grayL (p % 8)).toArray⟩) ∧ Below w.heap.size w w' := by
  have hq : (p : Int).tmod 8 = ((p % 8 : Nat) : Int) := by rw [Int.tmod_eq_emod_of_nonneg (by omega)]; omega
  have hlt : p % 8 < 8 := Nat.mod_lt _ (by omega)
  generalize p % 8 = q at *
  match q, hlt with
  | 0, _ => exact count_0 p w hq
  | 1, _ => exact count_1 p w hq
  | 2, _ => exact count_2 p w hq
  | 3, _ => exact count_3 p w hq
  | 4, _ => exact count_4 p w hq
  | 5, _ => exact count_5 p w hq
  | 6, _ => exact count_6 p w hq
  | 7, _ => exact count_7 p w hq
  | n + 8, h => exact absurd h (by omega)
end Bw
end Go.Proofs.YtacfkdgepknpkalDoor

/- What stuff.Fixed answers of any text and any byte: a bit ahead of each fourth, and else which error. -/
namespace Go.Proofs.YtacfkdgepknpkalDoor
open Go.ChangeShapes Go.WideShapes Go.ChangeAt Go.RowKit
namespace Bw
open Bm

set_option maxHeartbeats 1000000 in
theorem fixed_bad (s : ByteArray) (a : Int) (w : World) (hs : s.size ≤ maxLen) (hc : checkE s.data.toList ≠ 0) :
    Calls Tryd.prog 32 #[.string s, .int .u8 a] w fun e w' => e = .returned (.tuple #[.string ⟨#[]⟩, .int .i64 (checkE s.data.toList)]) ∧ Below w.heap.size w w' := by
  have HS := Hid.mk hs
  have hc' : (checkE s.data.toList == 0) = false := by simpa using hc
  clear hs
  go_enter Tryd.func32, Tryd.ntmps32
  go_wp2_with fail
  refine (check_any s w HS.out).mono ?_
  rintro e w1 ⟨rfl, hb1⟩
  go_wp2_with fail
  go_ret2
  exact ⟨rfl, hb1⟩

set_option maxHeartbeats 1000000 in
theorem fixed_range (s : ByteArray) (a : Int) (w : World) (hc : checkE s.data.toList = 0) (h0 : a ≠ 48) (h1 : a ≠ 49) :
    Calls Tryd.prog 32 #[.string s, .int .u8 a] w fun e w' => e = .returned (.tuple #[.string ⟨#[]⟩, .int .i64 3]) ∧ Below w.heap.size w w' := by
  obtain ⟨h1000, hrow⟩ := small_of_check hc
  have hck := fun W => check_any s W (by unfold maxLen; omega)
  rw [hc] at hck
  have h0' : (a != 48) = true := by simpa using h0
  have h1' : (a != 49) = true := by simpa using h1
  clear hc hrow h0 h1
  go_enter Tryd.func32, Tryd.ntmps32
  go_wp2_with fail
  refine (hck w).mono ?_
  rintro e w1 ⟨rfl, hb1⟩
  clear hck
  go_wp2_with fail
  go_ret2
  exact ⟨rfl, hb1⟩

theorem bit_bools {c : UInt8} (h : bit c = true) : ((c.toNat : Int) != 48 && (c.toNat : Int) != 49) = false := by
  rcases (bit_iff c).1 h with h | h <;> rw [h] <;> rfl

set_option maxHeartbeats 8000000 in
theorem fixed_ok (s : ByteArray) (a : UInt8) (w : World) (hc : checkE s.data.toList = 0) (ha : bit a = true) :
    Calls Tryd.prog 32 #[.string s, .int .u8 a.toNat] w fun e w' => e = .returned (.tuple #[.string ⟨(fixR s.data.toList a s.size).toArray⟩, .int .i64 0]) ∧ Below w.heap.size w w' := by
  obtain ⟨i0, hi, hz0, hz1, hz2⟩ := info_parts info_u8
  obtain ⟨h1000, hrow⟩ := small_of_check hc
  have hck := fun W => check_any s W (by unfold maxLen; omega)
  rw [hc] at hck
  have HR := Hid.mk hrow
  have HA := Hid.mk ha
  have hll : s.data.toList.length = s.size := by simp
  have HLL := Hid.mk hll
  have hab : ((a.toNat : Int) != 48) = false ∨ (((a.toNat : Int) != 48) = true ∧ ((a.toNat : Int) != 49) = false) := by
    rcases (bit_iff a).1 ha with h | h
    · left; rw [h]; rfl
    · right; rw [h]; exact ⟨rfl, rfl⟩
  clear hc hrow ha hll
  go_enter Tryd.func32, Tryd.ntmps32
  go_wp2_with fail
  refine (hck w).mono ?_
  rintro e w1 ⟨rfl, hb1⟩
  clear hck
  have hw1 := hb1.size
  rcases hab with hab | ⟨hab, hab2⟩
  all_goals focus
    go_wp2_with fail
    go_loopw [1, 7, 22] (fun av r i wr => ∃ k : Nat, k ≤ s.size ∧ i = .int .i64 k ∧ av = .int .u8 (fixP s.data.toList a k).toNat ∧ wr.ownsRow w.heap.size 5 1 r (fixR s.data.toList a k).length (cellsOf (fixR s.data.toList a k)) ∧ Below w.heap.size w wr) (fun _ _ i _ => s.size - (intOf i).toNat)
    case atStart => exact ⟨0, Nat.zero_le _, rfl, rfl, World.ownsRow_nil _ _ _ _, hb1⟩
    case round =>
      obtain ⟨k, hk, rfl, rfl, hown, hbel⟩ := hrel
      obtain ⟨o, ho⟩ : ∃ o, o = fixR s.data.toList a k := ⟨_, rfl⟩
      obtain ⟨p, hp⟩ : ∃ p, p = fixP s.data.toList a k := ⟨_, rfl⟩
      rw [← ho] at hown
      rw [← hp]
      have hsz := hbel.size
      have hol : o.length ≤ 2000 := by
        have := fixR_len s.data.toList a k
        rw [← ho] at this
        omega
      have hpb : bit p = true := by
        rw [hp]
        cases k with
        | zero => exact HA.out
        | succ k => rw [show fixP s.data.toList a (k + 1) = s.data.toList.getD k 0 from rfl, ← at_getD s k (by omega)]; exact rowB_at HR.out k (by omega)
      have HO := Hid.mk ho
      have HP := Hid.mk hp
      have HPB := Hid.mk hpb
      clear ho hp hpb
      by_cases hlt : k < s.size
      · have hlt' : (k : Int) < (s.size : Int) := by omega
        obtain ⟨c, hcE⟩ : ∃ c, c = s[k] := ⟨_, rfl⟩
        have hgd : s.data.toList.getD k 0 = c := by rw [hcE, at_getD s k hlt]
        have hP2 : fixP s.data.toList a (k + 1) = c := hgd
        have HP2 := Hid.mk hP2
        have HGD := Hid.mk hgd
        have hcv : s[k] = c := hcE.symm
        clear hcE hgd hP2
        by_cases h4 : k % 4 = 0
        · have h4' : ((k : Int) % 4 == 0) = true := by simp; omega
          have hnext : fixR s.data.toList a (k + 1) = o ++ [otb p] ++ [c] := by rw [fixR, if_pos h4, ← HO.out, ← HP.out, HGD.out]
          have HN := Hid.mk hnext
          clear hnext h4
          go_wp2_with fail
          refine (otherS_any p _ HPB.out).mono ?_
          rintro e w2 ⟨rfl, hw2⟩
          subst hw2
          have hol2 : (o ++ [otb p]).length ≤ 2001 := by rw [List.length_append]; simp; omega
          go_wp2_with (first
            | (at_builtin; refine wpList_append_own _ rfl (.tmp 28) (.tmp 31) 22 rfl w.heap.size 5 i0 (.int .u8 0) 1 1 Tryd.underlying22 hi hz0 hz1 hz2 rfl (by decide) _ _ _ rfl (hown.alloc _) ⟨w2.heap.size, 0, none⟩ 1 1 [Value.int .u8 (otb p).toNat] rfl rfl (by intro q u hq; match q, hq with | 0, hq => (simp at hq; subst hq; simp [Addr.add])) (by intro u hu; simp at hu; subst hu; rfl) (by unfold maxLen; omega) (by omega) (by simp; omega) ?_; intro v1 w3 hown1 hgrow1 _
               have hbel3 : Below w.heap.size w w3 := Below.grown (hbel.alloc hsz _) hgrow1 (by simp; omega) (fun q hq => (hown.lt q hq).1)
               have hown1' : w3.ownsRow w.heap.size 5 1 v1 (o ++ [otb p]).length (cellsOf (o ++ [otb p])) := by
                 rw [cellsOf_append, List.length_append]; exact hown1
               have hsz3 := hbel3.size
               clear hown hown1 hgrow1 hbel hsz)
            | (at_builtin; refine wpList_append_own _ rfl (.tmp 33) (.tmp 37) 22 rfl w.heap.size 5 i0 (.int .u8 0) 1 1 Tryd.underlying22 hi hz0 hz1 hz2 rfl (by decide) _ _ _ rfl (hown1'.alloc _) ⟨w3.heap.size, 0, none⟩ 1 1 [Value.int .u8 c.toNat] rfl rfl (by intro q u hq; match q, hq with | 0, hq => (simp at hq; subst hq; simp [Addr.add])) (by intro u hu; simp at hu; subst hu; rfl) (by unfold maxLen; omega) (by omega) (by simp; omega) ?_; intro v4 w4 hown4 hgrow4 _))
          have hbel4 : Below w.heap.size w w4 := Below.grown (hbel3.alloc hsz3 _) hgrow4 (by simp; omega) (fun q hq => (hown1'.lt q hq).1)
          have hown4' : w4.ownsRow w.heap.size 5 1 v4 (o ++ [otb p] ++ [c]).length (cellsOf (o ++ [otb p] ++ [c])) := by
            rw [cellsOf_append, show (o ++ [otb p] ++ [c]).length = (o ++ [otb p]).length + 1 from List.length_append ..]; exact hown4
          clear hown1' hown4 hgrow4 hbel3 hsz3
          go_wp2_with fail
          go_roundw
          case rel => exact ⟨k + 1, by omega, by go_num, by rw [HP2.out], by rw [HN.out]; exact hown4', hbel4⟩
          case measure => simp [intOf]; omega
        · have h4' : ((k : Int) % 4 == 0) = false := by rw [beq_eq_false_iff_ne]; omega
          have hnext : fixR s.data.toList a (k + 1) = o ++ [c] := by rw [fixR, if_neg h4, ← HO.out, HGD.out]
          have HN := Hid.mk hnext
          clear hnext h4
          go_wp2_with (at_builtin; refine wpList_append_own _ rfl (.tmp 33) (.tmp 37) 22 rfl w.heap.size 5 i0 (.int .u8 0) 1 1 Tryd.underlying22 hi hz0 hz1 hz2 rfl (by decide) _ _ _ rfl (hown.alloc _) ⟨wr.heap.size, 0, none⟩ 1 1 [Value.int .u8 c.toNat] rfl rfl (by intro q u hq; match q, hq with | 0, hq => (simp at hq; subst hq; simp [Addr.add])) (by intro u hu; simp at hu; subst hu; rfl) (by unfold maxLen; omega) (by omega) (by simp; omega) ?_; intro v4 w4 hown4 hgrow4 _)
          have hbel4 : Below w.heap.size w w4 := Below.grown (hbel.alloc hsz _) hgrow4 (by simp; omega) (fun q hq => (hown.lt q hq).1)
          have hown4' : w4.ownsRow w.heap.size 5 1 v4 (o ++ [c]).length (cellsOf (o ++ [c])) := by
            rw [cellsOf_append, List.length_append]; exact hown4
          clear hown hown4 hgrow4 hbel hsz
          go_wp2_with fail
          go_roundw
          case rel => exact ⟨k + 1, by omega, by go_num, by rw [HP2.out], by rw [HN.out]; exact hown4', hbel4⟩
          case measure => simp [intOf]; omega
      · have e : k = s.size := by omega
        subst e
        have hfin := HO.out
        subst hfin
        have hcv := convert_own hown
        clear hown
        go_wp2_with fail
        go_ret2
        exact ⟨rfl, hbel⟩
end Bw
end Go.Proofs.YtacfkdgepknpkalDoor
