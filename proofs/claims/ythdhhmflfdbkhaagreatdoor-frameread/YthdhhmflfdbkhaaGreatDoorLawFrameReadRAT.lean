/- Joined out of our texts: RefRead1, RefRead2. -/
import Derived.Test.YthdhhmflfdbkhaaGreatDoorLawFrameReadRAR
import Derived.Test.YthdhhmflfdbkhaaGreatDoorLawFrameReadRAH
import Derived.Test.YthdhhmflfdbkhaaGreatDoorLawFrameReadRAS
/- What the four small functions inside the document's own ReadBits answer: a bit, a number, what must be, plain bits. -/
namespace Go.Proofs.YthdhhmflfdbkhaaGreatDoor
open Go.ChangeShapes Go.WideShapes Go.ChangeAt Go.RowKit
namespace Bw
open Bm Cm

structure RSt (w : World) (gb gh gf ga : Nat) (b : ByteArray) (S : RS) : Prop where
  b : BoxAt w gb 9 (.string b)
  h : BoxAt w gh 9 (.string ⟨S.o.toArray⟩)
  f : BoxAt w gf 25 (.int .i64 S.fl)
  a : BoxAt w ga 3 (.int .i64 S.u)
  ne : gb ≠ gh ∧ gb ≠ gf ∧ gb ≠ ga ∧ gh ≠ gf ∧ gh ≠ ga ∧ gf ≠ ga
theorem RSt.kept {w w' : World} {gb gh gf ga : Nat} {b : ByteArray} {S : RS} (h : RSt w gb gh gf ga b S) (hb : Below w.heap.size w w') : RSt w' gb gh gf ga b S :=
  ⟨h.b.kept hb, h.h.kept hb, h.f.kept hb, h.a.kept hb, h.ne⟩

set_option maxHeartbeats 2000000 in
theorem bit1_any (gb gh gf ga : Nat) (b : ByteArray) (S : RS) (w : World) (hS : RSt w gb gh gf ga b S) (h1000 : b.size ≤ 1000) (ho : S.o.length ≤ 999) :
    Calls Tryz.prog 31 #[.pointer (some ⟨gb, 0, none⟩), .pointer (some ⟨gh, 0, none⟩), .pointer (some ⟨gf, 0, none⟩), .pointer (some ⟨ga, 0, none⟩)] w fun e w' =>
      e = .returned (.string ⟨#[(bitM b.data.toList S).1]⟩) ∧ RSt w' gb gh gf ga b (bitM b.data.toList S).2 ∧ Tch [gh, gf, ga] w w' := by
  have hc1 := hS.b.cell
  have hc2 := hS.h.cell
  have hos : (ByteArray.mk S.o.toArray).size = S.o.length := mk_size _
  have ht := fun W => takeBits_any b (S.o.length + 1) W h1000 (by omega)
  have hok := takeG_ok b.data.toList (S.o.length + 1) 0 []
  unfold bitM
  generalize takeG b.data.toList (S.o.length + 1) 0 [] = A at *
  obtain ⟨o', u', er⟩ := A
  unfold takeV at ht
  simp only at ht ⊢
  have hol : er = 0 → o'.length = S.o.length + 1 := fun he => by
    have := (hok o' u' (by rw [he])).1
    simpa using this
  have hTs := mk_size o'
  have hTl := mk_list o'
  have hlast : (ByteArray.mk o'.toArray).data.toList.drop S.o.length = [o'.getD S.o.length 0] ∨ er ≠ 0 := by
    by_cases he : er = 0
    · left
      rw [hTl]
      have hl := hol he
      rw [List.drop_eq_getElem_cons (by omega), List.drop_of_length_le (by omega)]
      simp [List.getD, show S.o.length < o'.length by omega]
    · exact .inr he
  obtain ⟨T, hT⟩ : ∃ T, T = ByteArray.mk o'.toArray := ⟨_, rfl⟩
  rw [← hT] at ht hTs hTl hlast
  obtain ⟨H, hH⟩ : ∃ H, H = ByteArray.mk S.o.toArray := ⟨_, rfl⟩
  rw [← hH] at hc2 hos
  have harg : (H.size : Int) + 1 = ((S.o.length + 1 : Nat) : Int) := by omega
  have hHm : H.size ≤ 999 := by omega
  have HT := Hid.mk ht
  have HS := Hid.mk hS
  have HA := Hid.mk harg
  have HOL := Hid.mk hol
  have HTS := Hid.mk hTs
  have HTL := Hid.mk hTl
  have HLA := Hid.mk hlast
  have HTT := Hid.mk hT
  have HHH := Hid.mk hH
  clear ht hok hS hos harg hol hTs hTl hlast hT hH
  obtain ⟨n1, n2, n3, n4, n5, n6⟩ := HS.out.ne
  by_cases hf : S.fl = 0
  · rw [if_pos hf]
    by_cases he : er = 0
    · subst he
      have hol' := HOL.out rfl
      have hts' := HTS.out
      have HOS := Hid.mk (show T.size = S.o.length + 1 by omega)
      clear hol' hts'
      rw [if_pos rfl]
      go_enter Tryz.func31, Tryz.ntmps31
      go_wp2_with fail
      rw [HA.out]
      refine (HT.out w).mono ?_
      rintro e w1 ⟨rfl, hb1⟩
      have hS1 := HS.out.kept hb1
      have hc3 := hS1.f.cell
      have hz3 := hS1.f.frozen
      have hc4 := hS1.h.cell
      have hz4 := hS1.h.frozen
      have hc5 := hS1.a.cell
      have hz5 := hS1.a.frozen
      have HS1 := Hid.mk hS1
      have hT1 : Tch [gh, gf, ga] w w1 := Tch.of hb1
      clear hb1 hS1 hc1 hc2
      rw [hf] at hc3
      have hset := HS1.out.f.set (.int .i64 0)
      have hs1 := hset.cell
      have bk := HS1.out.h.other (.int .i64 0) n4
      have ba := HS1.out.a.other (.int .i64 0) (Ne.symm n6)
      have bb := HS1.out.b.other (.int .i64 0) n2
      have hk1 := bk.cell
      have hk2 := bk.frozen
      have hk3 := ba.cell
      have hk4 := ba.frozen
      have ba2 := ba.other (.string T) (Ne.symm n5)
      have hk5 := ba2.cell
      have hk6 := ba2.frozen
      have h3 := (hset.other (.string T) (Ne.symm n4)).other (.int .i64 u') n6
      have h2 := (bk.set (.string T)).other (.int .i64 u') n5
      have h1 := (bb.other (.string T) n1).other (.int .i64 u') n3
      have h4 := ba2.set (.int .i64 u')
      have HB := Hid.mk (And.intro h1 (And.intro h2 (And.intro h3 h4)))
      clear h1 h2 h3 h4 hset bk ba bb ba2
      have hTz : (1 : Int) ≤ (T.size : Int) := by have := HOS.out; omega
      have hTz2 : (T.size : Int) ≤ 1000 := by have := HOS.out; omega
      have hsl : ∀ W, (Instr.slice 9 (.string T) (some (.int .i64 ((T.size : Int) - 1))) none none).run Tryz.prog W = .ok (.string ⟨#[o'.getD S.o.length 0]⟩) W := by
        intro W
        rw [run_slice_string_l W _ T Tryz.underlying9 .i64 _ (by omega) (by omega)]
        have e1 : ((T.size : Int) - 1).toNat = S.o.length := by have := HOS.out; omega
        have e2 : T.size = S.o.length + 1 := by have := HOS.out; omega
        have e3 : (T.extract S.o.length T.size).data.toList = [o'.getD S.o.length 0] := by
          rw [e2, extract_list T S.o.length 1]
          rcases HLA.out with h | h
          · rw [h]; rfl
          · exact absurd rfl h
        rw [e1, ba_eq e3]
      go_wp2_with fail
      go_ret
      obtain ⟨h1, h2, h3, h4⟩ := HB.out
      refine ⟨rfl, ⟨h1, by rw [HTT.out] at h2 ⊢; exact h2, h3, h4, HS1.out.ne⟩, ((hT1.set (by simp) _).set (by simp) _).set (by simp) _⟩
    · rw [if_neg he]
      go_enter Tryz.func31, Tryz.ntmps31
      go_wp2_with fail
      rw [HA.out]
      refine (HT.out w).mono ?_
      rintro e w1 ⟨rfl, hb1⟩
      have hS1 := HS.out.kept hb1
      have hc3 := hS1.f.cell
      have hz3 := hS1.f.frozen
      have hc4 := hS1.h.cell
      have hz4 := hS1.h.frozen
      have hc5 := hS1.a.cell
      have hz5 := hS1.a.frozen
      have HS1 := Hid.mk hS1
      have hT1 : Tch [gh, gf, ga] w w1 := Tch.of hb1
      clear hb1 hS1 hc1 hc2
      rw [hf] at hc3
      have hs1 := (HS1.out.f.set (.int .i64 er)).cell
      have hne : (er != 0) = true := by simpa using he
      go_wp2_with fail
      go_ret
      refine ⟨rfl, ⟨HS1.out.b.other _ n2, HS1.out.h.other _ n4, HS1.out.f.set _, HS1.out.a.other _ (Ne.symm n6), HS1.out.ne⟩, hT1.set (by simp) _⟩
  · rw [if_neg hf]
    have h1 : (S.fl == 0) = false := by simpa using hf
    have h2 : (S.fl != 0) = true := by simpa using hf
    go_enter Tryz.func31, Tryz.ntmps31
    go_wp2_with fail
    rw [HA.out]
    refine (HT.out w).mono ?_
    rintro e w1 ⟨rfl, hb1⟩
    have hS1 := HS.out.kept hb1
    have hc3 := hS1.f.cell
    have hz3 := hS1.f.frozen
    have hc4 := hS1.h.cell
    have hz4 := hS1.h.frozen
    have hc5 := hS1.a.cell
    have hz5 := hS1.a.frozen
    have HS1 := Hid.mk hS1
    have hT1 : Tch [gh, gf, ga] w w1 := Tch.of hb1
    clear hb1 hS1 hc1 hc2
    go_wp2_with fail
    go_ret
    exact ⟨rfl, HS1.out, hT1⟩
end Bw
end Go.Proofs.YthdhhmflfdbkhaaGreatDoor

/- What the other small functions inside the document's own ReadBits answer: a number, what must be, plain bits. -/
namespace Go.Proofs.YthdhhmflfdbkhaaGreatDoor
open Go.ChangeShapes Go.WideShapes Go.ChangeAt Go.RowKit
namespace Bw
open Bm Cm

set_option maxHeartbeats 1000000 in
theorem must3_any (gb gh gf ga : Nat) (b : ByteArray) (S : RS) (ok : Bool) (x : Int) (w : World) (hS : RSt w gb gh gf ga b S) :
    Calls Tryz.prog 34 #[.bool ok, .int .i64 x, .pointer (some ⟨gf, 0, none⟩)] w fun e w' =>
      e = .returned (.tuple #[]) ∧ RSt w' gb gh gf ga b (mustM S ok x) ∧ Tch [gh, gf, ga] w w' := by
  have hc := hS.f.cell
  have hz := hS.f.frozen
  obtain ⟨n1, n2, n3, n4, n5, n6⟩ := hS.ne
  have HS := Hid.mk hS
  unfold mustM
  clear hS
  by_cases hf : S.fl = 0
  · rw [hf] at hc
    cases ok
    · rw [if_pos ⟨hf, rfl⟩]
      go_enter Tryz.func34, Tryz.ntmps34
      go_wp2_with fail
      go_end0
      exact ⟨rfl, ⟨HS.out.b.other _ n2, HS.out.h.other _ n4, HS.out.f.set _, HS.out.a.other _ (Ne.symm n6), HS.out.ne⟩, (Tch.refl _ _).set (by simp) _⟩
    · rw [if_neg (by simp)]
      go_enter Tryz.func34, Tryz.ntmps34
      go_wp2_with fail
      go_end0
      exact ⟨rfl, HS.out, Tch.refl _ _⟩
  · rw [if_neg (by simp [hf])]
    have h1 : (S.fl == 0) = false := by simpa using hf
    go_enter Tryz.func34, Tryz.ntmps34
    go_wp2_with fail
    go_end0
    exact ⟨rfl, HS.out, Tch.refl _ _⟩

/-- the value of the small function that takes a bit -/
def bitF (gb gh gf ga : Nat) : Value := .func (.func 31) #[] #[.pointer (some ⟨gb, 0, none⟩), .pointer (some ⟨gh, 0, none⟩), .pointer (some ⟨gf, 0, none⟩), .pointer (some ⟨ga, 0, none⟩)]

set_option maxHeartbeats 2000000 in
theorem num2_any (gb gh gf ga gq n : Nat) (b : ByteArray) (S : RS) (w : World) (hS : RSt w gb gh gf ga b S) (hq : BoxAt w gq 60 (bitF gb gh gf ga)) (hqn : gq ≠ gh ∧ gq ≠ gf ∧ gq ≠ ga) (h1000 : b.size ≤ 1000) (hb : rowB b.data.toList = true) (hn : n ≤ 20) (ho : S.o.length + n ≤ 999) :
    Calls Tryz.prog 33 #[.int .i64 n, .pointer (some ⟨gq, 0, none⟩)] w fun e w' =>
      e = .returned (.int .i64 (numJ b.data.toList S n).1) ∧ RSt w' gb gh gf ga b (numJ b.data.toList S n).2 ∧ Tch [gh, gf, ga] w w' := by
  have HS := Hid.mk hS
  have HB := Hid.mk hb
  have HQ := Hid.mk hq
  have hqn' : gq ∉ [gh, gf, ga] := by simp [hqn]
  have HQN := Hid.mk hqn'
  clear hS hb hq hqn hqn'
  go_enter Tryz.func33, Tryz.ntmps33
  go_wp2_with fail
  go_loopw [4, 6] (fun v i wr => ∃ j : Nat, j ≤ n ∧ i = .int .i64 j ∧ v = .int .i64 (numJ b.data.toList S j).1 ∧ RSt wr gb gh gf ga b (numJ b.data.toList S j).2 ∧ Tch [gh, gf, ga] w wr) (fun _ i _ => n - (intOf i).toNat)
  case atStart => exact ⟨0, Nat.zero_le _, rfl, rfl, HS.out, Tch.refl _ _⟩
  case round =>
    obtain ⟨j, hj, rfl, rfl, hSr, htr⟩ := hrel
    by_cases hlt : j < n
    · have hlt' : (j : Int) < (n : Int) := by omega
      have hbox := (htr.box HQ.out HQN.out).cell
      unfold bitF at hbox
      have hl := numJ_len b.data.toList S j
      have hbit := bit1_any gb gh gf ga b (numJ b.data.toList S j).2 wr hSr h1000 (by omega)
      have hv := numJ_lt b.data.toList HB.out S j
      have hv20 : (numJ b.data.toList S j).1 < 2 ^ 20 := Nat.lt_of_lt_of_le hv (Nat.pow_le_pow_right (by omega) (by omega))
      have hvb : ((numJ b.data.toList S j).1 : Int) ≤ 1048575 := by omega
      have hd := bitM_bit b.data.toList HB.out (numJ b.data.toList S j).2
      have hd1 := bit_dig hd
      have HN : Hid ((numJ b.data.toList S (j + 1)) = (2 * (numJ b.data.toList S j).1 + dig (bitM b.data.toList (numJ b.data.toList S j).2).1, (bitM b.data.toList (numJ b.data.toList S j).2).2)) := Hid.mk rfl
      generalize (numJ b.data.toList S j).1 = v at *
      generalize (bitM b.data.toList (numJ b.data.toList S j).2).1 = c at *
      generalize (bitM b.data.toList (numJ b.data.toList S j).2).2 = S' at *
      have hcn := (bit_iff c).1 hd
      have hc48 : (48 : Int) ≤ (c.toNat : Int) := by omega
      have hc49 : (c.toNat : Int) ≤ 49 := by omega
      have HBI := Hid.mk hbit
      have HD := Hid.mk hd1
      clear hbit hv hv20 hd hd1 hcn hl
      go_wp2_with fail
      refine HBI.out.mono ?_
      rintro e w1 ⟨rfl, hS1, ht1⟩
      have ht2 := htr.trans ht1
      clear ht1 htr hSr HBI hbox
      have hidx : (ByteArray.mk #[c])[0]'(show 0 < 1 from Nat.zero_lt_one) = c := rfl
      go_wp2_with fail
      go_roundw
      case rel =>
        exact ⟨j + 1, by omega, by go_num, by rw [HN.out]; exact int_eq (by have := HD.out.2; simp only; omega), by rw [HN.out]; exact hS1, ht2⟩
      case measure => simp [intOf]; omega
    · have e : j = n := by omega
      subst e
      go_wp2_with fail
      go_ret
      exact ⟨rfl, hSr, htr⟩

set_option maxHeartbeats 2000000 in
theorem plain4_any (gb gh gf ga n : Nat) (b : ByteArray) (S : RS) (w : World) (hS : RSt w gb gh gf ga b S) (h1000 : b.size ≤ 1000) (hu : S.u ≤ 2000) (hn : n ≤ 1000) :
    Calls Tryz.prog 37 #[.int .i64 n, .pointer (some ⟨gf, 0, none⟩), .pointer (some ⟨ga, 0, none⟩), .pointer (some ⟨gb, 0, none⟩)] w fun e w' =>
      e = .returned (.string ⟨(nextP b.data.toList S n).1.toArray⟩) ∧ RSt w' gb gh gf ga b (nextP b.data.toList S n).2 ∧ Tch [gh, gf, ga] w w' := by
  have hc1 := hS.f.cell
  have hz1 := hS.f.frozen
  have hc2 := hS.a.cell
  have hz2 := hS.a.frozen
  have hc3 := hS.b.cell
  obtain ⟨n1, n2, n3, n4, n5, n6⟩ := hS.ne
  have hbl : b.data.toList.length = b.size := by simp
  have HS := Hid.mk hS
  unfold nextP
  rw [hbl]
  clear hS
  by_cases hf : S.fl = 0
  · rw [hf] at hc1
    rw [if_pos hf]
    by_cases hlt : b.size < S.u + n
    · rw [if_pos hlt]
      have hd : decide ((b.size : Int) < (S.u : Int) + (n : Int)) = true := by simp; omega
      have hs1 := (HS.out.f.set (.int .i64 7)).cell
      clear hbl
      go_enter Tryz.func37, Tryz.ntmps37
      go_wp2_with fail
      go_ret
      exact ⟨rfl, ⟨HS.out.b.other _ n2, HS.out.h.other _ n4, HS.out.f.set _, HS.out.a.other _ (Ne.symm n6), HS.out.ne⟩, (Tch.refl _ _).set (by simp) _⟩
    · rw [if_neg hlt]
      have hd : decide ((b.size : Int) < (S.u : Int) + (n : Int)) = false := by simp; omega
      have hs2 := (HS.out.a.set (.int .i64 ((S.u : Int) + (n : Int)))).cell
      have hs3 := (HS.out.b.other (.int .i64 ((S.u : Int) + (n : Int))) n3).cell
      have hle : (S.u : Int) + (n : Int) ≤ (b.size : Int) := by omega
      have hx : (b.extract S.u (S.u + n)).data.toList = (b.data.toList.drop S.u).take n := extract_list b S.u n
      have hsl : ∀ W, (Instr.slice 9 (.string b) (some (.int .i64 (S.u : Int))) (some (.int .i64 ((S.u : Int) + (n : Int)))) none).run Tryz.prog W = .ok (.string ⟨((b.data.toList.drop S.u).take n).toArray⟩) W := by
        intro W
        rw [run_slice_string W _ b _ _ _ _ Tryz.underlying9 (by omega) (by omega) (by omega)]
        have e1 : ((S.u : Int)).toNat = S.u := by omega
        have e2 : ((S.u : Int) + (n : Int)).toNat = S.u + n := by omega
        rw [e1, e2, ba_eq hx]
      generalize ByteArray.mk ((b.data.toList.drop S.u).take n).toArray = T at *
      have hbox := HS.out.a.set (.int .i64 ((S.u : Int) + (n : Int)))
      have HBX := Hid.mk hbox
      clear hbl hx hbox
      go_enter Tryz.func37, Tryz.ntmps37
      set_option maxRecDepth 100000 in
      go_wp2_with fail
      go_ret
      refine ⟨rfl, ⟨HS.out.b.other _ n3, HS.out.h.other _ n5, by rw [← hf]; exact HS.out.f.other _ n6, ?_, HS.out.ne⟩, (Tch.refl _ _).set (by simp) _⟩
      have h := HBX.out
      rw [show ((S.u : Int) + (n : Int)) = ((S.u + n : Nat) : Int) by omega] at h ⊢
      exact h
  · rw [if_neg hf]
    have h1 : (S.fl == 0) = false := by simpa using hf
    have h2 : (S.fl != 0) = true := by simpa using hf
    clear hbl
    go_enter Tryz.func37, Tryz.ntmps37
    go_wp2_with fail
    go_ret
    exact ⟨rfl, HS.out, Tch.refl _ _⟩
end Bw
end Go.Proofs.YthdhhmflfdbkhaaGreatDoor
