/- What the other small functions inside the document's own ReadBits answer: a number, what must be, plain bits. -/
import Derived.Test.YtemohjamcdkcmaaGreatDoorC21
import Derived.Test.YtemohjamcdkcmaaGreatDoorC5
import Derived.Test.YtemohjamcdkcmaaGreatDoorRD1
namespace Go.Proofs.YtemohjamcdkcmaaGreatDoor
open Go.ChangeShapes Go.WideShapes Go.ChangeAt Go.RowKit
namespace Bw
open Bm

def lenOf : Value → Nat | .string s => s.size | _ => 0

set_option maxHeartbeats 1000000 in
theorem same_any (t : ByteArray) (c : UInt8) (w : World) (h0 : 0 < t.size) (hm : t.size ≤ 1000) (hc : t[0] = c) :
    Calls Tryz.prog 96 #[.string t] w fun e w' => e = .returned (.bool ((Lib.countByte t.data.toList c : Int) == (t.size : Int))) ∧ w' = w := by
  have hsl : ∀ W, (Instr.slice 9 (.string t) none (some (.int .i64 1)) none).run Tryz.prog W = .ok (.string ⟨#[c]⟩) W := by
    intro W
    rw [run_slice_string_h W _ t Tryz.underlying9 .i64 _ (by omega) (by omega)]
    rw [show t.extract 0 (1 : Int).toNat = ⟨#[c]⟩ by rw [← hc]; exact one_at t 0 h0]
  have hcn := fun W => Tryz.strings_Count_one t c W
  generalize Lib.countByte t.data.toList c = q at *
  clear hc
  go_enter Tryz.func96, Tryz.ntmps96
  go_wp2_with fail
  refine (hcn _).mono ?_
  rintro e w1 ⟨rfl, hw1⟩
  subst hw1
  clear hcn
  go_wp2_with fail
  go_ret
  exact ⟨rfl, rfl⟩

set_option maxHeartbeats 8000000 in
theorem takeBits_any (s : ByteArray) (n : Nat) (w : World) (h1000 : s.size ≤ 1000) (hn : n ≤ 1000) :
    Calls Tryz.prog 55 #[.string s, .int .i64 n] w fun e w' => e = .returned (takeV (takeG s.data.toList n 0 [])) ∧ Below w.heap.size w w' := by
  obtain ⟨A, hA⟩ : ∃ A, A = takeG s.data.toList n 0 [] := ⟨_, rfl⟩
  rw [← hA]
  have HA := Hid.mk hA
  clear hA
  have hll : s.data.toList.length = s.size := by simp
  have HLL := Hid.mk hll
  clear hll
  go_enter Tryz.func55, Tryz.ntmps55
  go_wp2_with fail
  go_loopw [7, 8] (fun r i wr => ∃ (u : Nat) (sb : ByteArray), u ≤ s.size ∧ sb.size ≤ n ∧ i = .int .i64 u ∧ r = .string sb ∧ (endR (s.data.toList.take u)).2 ≤ 4 ∧ takeG s.data.toList (n - sb.size) u sb.data.toList = A ∧ Below w.heap.size w wr) (fun r _ _ => n - lenOf r)
  case atStart => exact ⟨0, ⟨#[]⟩, Nat.zero_le _, Nat.zero_le _, rfl, rfl, by simp [endR], HA.out.symm, Below.refl _ _⟩
  case round =>
    obtain ⟨u, sb, hu, hsn, rfl, rfl, h4, hG, hbel⟩ := hrel
    have HG := Hid.mk hG
    have H4 := Hid.mk h4
    clear hG h4
    by_cases hkn : sb.size < n
    · have hkn' : (sb.size : Int) < (n : Int) := by omega
      have hm : n - sb.size = (n - (sb.size + 1)) + 1 := by omega
      have HM := Hid.mk hm
      clear hm
      by_cases hlt : u < s.size
      · have hlt' : (u : Int) < (s.size : Int) := by omega
        obtain ⟨c, hcE⟩ : ∃ c, c = s[u] := ⟨_, rfl⟩
        have hgd : s.data.toList.getD u 0 = c := by rw [hcE, at_getD s u hlt]
        have HGD := Hid.mk hgd
        have hcv : s[u] = c := hcE.symm
        have hsl : ∀ W, (Instr.slice 9 (.string s) (some (.int .i64 (u : Int))) (some (.int .i64 ((u : Int) + 1))) none).run Tryz.prog W = .ok (.string ⟨#[c]⟩) W := by
          intro W
          rw [run_slice_string W _ s _ _ _ _ Tryz.underlying9 (by omega) (by omega) (by omega)]
          rw [show s.extract (u : Int).toNat ((u : Int) + 1).toNat = ⟨#[c]⟩ by rw [show (u : Int).toNat = u by omega, show ((u : Int) + 1).toNat = u + 1 by omega, one_at s u hlt, hcE]]
        have hon := end_on s.data.toList u (by rw [HLL.out]; exact hlt) H4.out
        have hfive := end_five s.data.toList u (by rw [HLL.out]; exact hlt) H4.out
        have HON := Hid.mk hon
        have HFIVE := Hid.mk hfive
        have hXl : (sb ++ ⟨#[c]⟩).data.toList = sb.data.toList ++ [c] := ba_cat _ _
        have HXL := Hid.mk hXl
        have hXs : (sb ++ ⟨#[c]⟩).size = sb.size + 1 := by rw [ByteArray.size_append]; rfl
        have HXS := Hid.mk hXs
        have htl : (s.data.toList.take (u + 1)).length = u + 1 := by rw [List.length_take, HLL.out]; omega
        have HTL := Hid.mk htl
        clear hcE hgd hon hfive hXl hXs htl
        by_cases hge : 4 ≤ u
        · have hge' : (5 : Int) ≤ (u : Int) + 1 := by omega
          obtain ⟨t5, ht5⟩ : ∃ t5, t5 = s.extract (u - 4) (u + 1) := ⟨_, rfl⟩
          have hsl5 : ∀ W, (Instr.slice 9 (.string s) (some (.int .i64 ((u : Int) + 1 - 5))) (some (.int .i64 ((u : Int) + 1))) none).run Tryz.prog W = .ok (.string t5) W := by
            intro W
            rw [run_slice_string W _ s _ _ _ _ Tryz.underlying9 (by omega) (by omega) (by omega)]
            rw [show ((u : Int) + 1 - 5).toNat = u - 4 by omega, show ((u : Int) + 1).toNat = u + 1 by omega, ht5]
          have ht5s : t5.size = 5 := by rw [ht5, ByteArray.size_extract]; omega
          have ht5l : t5.data.toList = (s.data.toList.take (u + 1)).drop ((s.data.toList.take (u + 1)).length - 5) := by
            have e2 := extract_list s (u - 4) 5
            rw [show u - 4 + 5 = u + 1 by omega] at e2
            rw [ht5, e2, HTL.out, show u + 1 - 5 = u - 4 by omega, List.drop_take, show u + 1 - (u - 4) = 5 by omega]
          obtain ⟨d, hdE⟩ : ∃ d, d = t5[0] := ⟨_, rfl⟩
          have hcnt : Lib.countByte t5.data.toList d = 5 ↔ (endR (s.data.toList.take (u + 1))).2 = 5 := by
            have hd0 : (s.data.toList.take (u + 1)).getD ((s.data.toList.take (u + 1)).length - 5) 0 = d := by
              rw [hdE, at_getD t5 0 (by omega), ht5l]
              simp [List.getD]
            rw [ht5l]
            exact five_iff' _ HFIVE.out (by rw [HTL.out]; omega) d hd0
          have hsame := fun W => same_any t5 d W (by omega) (by omega) hdE.symm
          rw [ht5s] at hsame
          generalize Lib.countByte t5.data.toList d = q at *
          have HSAME := Hid.mk hsame
          have HCNT := Hid.mk hcnt
          clear hsame hcnt ht5l ht5s ht5 hdE
          go_wp2_with fail
          refine (HSAME.out _).mono ?_
          rintro e w1 ⟨rfl, hw1⟩
          subst hw1
          clear HSAME hsl5 hsl
          by_cases h5 : (endR (s.data.toList.take (u + 1))).2 = 5
          · have hq : ((q : Int) == ((5 : Nat) : Int)) = true := by rw [HCNT.out.2 h5]; rfl
            have H5 := Hid.mk h5
            clear h5
            by_cases hlt2 : u + 1 < s.size
            · have hlt2' : (u : Int) + 1 < (s.size : Int) := by omega
              obtain ⟨d2, hd2E⟩ : ∃ d2, d2 = s[u + 1] := ⟨_, rfl⟩
              have hgd2 : s.data.toList.getD (u + 1) 0 = d2 := by rw [hd2E, at_getD s (u + 1) hlt2]
              have HGD2 := Hid.mk hgd2
              have hdv : s[u + 1] = d2 := hd2E.symm
              clear hd2E hgd2
              by_cases h6 : d2 = c
              · have h6' : ((d2.toNat : Int) == (c.toNat : Int)) = true := by rw [h6]; simp
                have hfin : A = ([], 0, 5) := by
                  rw [← HG.out, HM.out]
                  exact takeG_six _ _ _ _ (by rw [HLL.out]; exact hlt2) H5.out (by rw [HGD.out, HGD2.out]; exact h6)
                subst hfin
                clear h6
                go_wp2_with fail
                go_quiet (fail)
                go_wp2_with fail
                go_ret3
                exact ⟨rfl, hbel.trans ⟨rfl, rfl, rfl, Nat.le_refl _, fun _ _ => rfl⟩⟩
              · have h6' : ((d2.toNat : Int) == (c.toNat : Int)) = false := by
                  have : d2.toNat ≠ c.toNat := fun h => h6 (UInt8.toNat_inj.1 h)
                  rw [beq_eq_false_iff_ne]; omega
                have hG2 : takeG s.data.toList (n - (sb ++ ⟨#[c]⟩).size) (u + 2) (sb ++ ⟨#[c]⟩).data.toList = A := by
                  rw [HXS.out, HXL.out, ← HG.out, HM.out, takeG_on5 _ _ _ _ (by rw [HLL.out]; exact hlt2) H5.out (by rw [HGD.out, HGD2.out]; exact h6), HGD.out]
                have HG2 := Hid.mk hG2
                have hon := end_on5 s.data.toList u (by rw [HLL.out]; exact hlt2) (by rw [HGD.out, HGD2.out]; exact h6)
                have hon' : (endR (s.data.toList.take (u + 2))).2 ≤ 4 := by rw [hon]; simp
                have HON2 := Hid.mk hon'
                clear h6 hG2 hon hon'
                go_wp2_with fail
                go_quiet (fail)
                go_wp2_with fail
                go_roundw
                case rel => exact ⟨u + 2, sb ++ ⟨#[c]⟩, by omega, by rw [HXS.out]; omega, int_eq (by omega), rfl, HON2.out, HG2.out, hbel.trans ⟨rfl, rfl, rfl, Nat.le_refl _, fun _ _ => rfl⟩⟩
                case measure => show n - (sb ++ ⟨#[c]⟩).size < n - sb.size; rw [HXS.out]; omega
            · have hlt2' : ((u : Int) + 1 == (s.size : Int)) = true := by simp; omega
              have hfin : A = ([], 0, 7) := by
                rw [← HG.out, HM.out]
                exact takeG_end5 _ _ _ _ (by rw [HLL.out]; omega) H5.out
              subst hfin
              go_wp2_with fail
              go_ret3
              exact ⟨rfl, hbel⟩
          · have hq : ((q : Int) == ((5 : Nat) : Int)) = false := by
              rw [beq_eq_false_iff_ne]
              exact fun e => h5 (HCNT.out.1 (by omega))
            have hG2 : takeG s.data.toList (n - (sb ++ ⟨#[c]⟩).size) (u + 1) (sb ++ ⟨#[c]⟩).data.toList = A := by
              rw [HXS.out, HXL.out, ← HG.out, HM.out, takeG_on _ _ _ _ (by rw [HLL.out]; exact hlt) h5, HGD.out]
            have HG2 := Hid.mk hG2
            have hon := HON.out h5
            have HON2 := Hid.mk hon
            clear h5 hG2 hon
            go_wp2_with fail
            go_roundw
            case rel => exact ⟨u + 1, sb ++ ⟨#[c]⟩, by omega, by rw [HXS.out]; omega, int_eq (by omega), rfl, HON2.out, HG2.out, hbel⟩
            case measure => show n - (sb ++ ⟨#[c]⟩).size < n - sb.size; rw [HXS.out]; omega
        · have hge' : decide ((5 : Int) ≤ (u : Int) + 1) = false := by simp; omega
          have h5 : (endR (s.data.toList.take (u + 1))).2 ≠ 5 := by
            have := endR_le (s.data.toList.take (u + 1))
            rw [HTL.out] at this
            omega
          have hG2 : takeG s.data.toList (n - (sb ++ ⟨#[c]⟩).size) (u + 1) (sb ++ ⟨#[c]⟩).data.toList = A := by
            rw [HXS.out, HXL.out, ← HG.out, HM.out, takeG_on _ _ _ _ (by rw [HLL.out]; exact hlt) h5, HGD.out]
          have HG2 := Hid.mk hG2
          have hon := HON.out h5
          have HON2 := Hid.mk hon
          clear h5 hG2 hon
          go_wp2_with fail
          go_roundw
          case rel => exact ⟨u + 1, sb ++ ⟨#[c]⟩, by omega, by rw [HXS.out]; omega, int_eq (by omega), rfl, HON2.out, HG2.out, hbel⟩
          case measure => show n - (sb ++ ⟨#[c]⟩).size < n - sb.size; rw [HXS.out]; omega
      · have hlt' : ((u : Int) == (s.size : Int)) = true := by simp; omega
        have hfin : A = ([], 0, 7) := by
          rw [← HG.out, HM.out]
          exact takeG_end _ _ _ _ (by rw [HLL.out]; omega)
        subst hfin
        go_wp2_with fail
        go_ret3
        exact ⟨rfl, hbel⟩
    · have e : sb.size = n := by omega
      have hge : (n : Int) ≤ (sb.size : Int) := by omega
      have hge2 : decide ((sb.size : Int) < (n : Int)) = false := by rw [decide_eq_false_iff_not]; omega
      have hfin : A = (sb.data.toList, u, 0) := by rw [← HG.out, e, Nat.sub_self, takeG_zero]
      have hfin2 : takeV A = .tuple #[.string sb, .int .i64 u, .int .i64 0] := by
        rw [hfin]; unfold takeV; simp only [← ba_eq (show sb.data.toList = sb.data.toList from rfl)]
      have HF := Hid.mk hfin2
      clear hfin hfin2 e
      go_wp2_with fail
      go_ret3
      exact ⟨by rw [HF.out]; try rfl, hbel⟩
end Bw
end Go.Proofs.YtemohjamcdkcmaaGreatDoor
namespace Go.Proofs.YtemohjamcdkcmaaGreatDoor
open Go.ChangeShapes Go.WideShapes Go.ChangeAt Go.RowKit
namespace Bw
open Bm Cm

structure RSt (w : World) (gb gh gf ga : Nat) (b : ByteArray) (S : RS) : Prop where
  b : BoxAt w gb 9 (.string b)
  h : BoxAt w gh 9 (.string ⟨S.o.toArray⟩)
  f : BoxAt w gf 26 (.int .i64 S.fl)
  a : BoxAt w ga 3 (.int .i64 S.u)
  ne : gb ≠ gh ∧ gb ≠ gf ∧ gb ≠ ga ∧ gh ≠ gf ∧ gh ≠ ga ∧ gf ≠ ga
theorem RSt.kept {w w' : World} {gb gh gf ga : Nat} {b : ByteArray} {S : RS} (h : RSt w gb gh gf ga b S) (hb : Below w.heap.size w w') : RSt w' gb gh gf ga b S :=
  ⟨h.b.kept hb, h.h.kept hb, h.f.kept hb, h.a.kept hb, h.ne⟩

set_option maxHeartbeats 2000000 in
theorem bit1_any (gb gh gf ga : Nat) (b : ByteArray) (S : RS) (w : World) (hS : RSt w gb gh gf ga b S) (h1000 : b.size ≤ 1000) (ho : S.o.length ≤ 999) :
    Calls Tryz.prog 54 #[.pointer (some ⟨gb, 0, none⟩), .pointer (some ⟨gh, 0, none⟩), .pointer (some ⟨gf, 0, none⟩), .pointer (some ⟨ga, 0, none⟩)] w fun e w' =>
      e = .returned (.string ⟨#[(bitM b.data.toList S).1]⟩) ∧ RSt w' gb gh gf ga b (bitM b.data.toList S).2 ∧ Tch [gh, gf, ga] w w' := by
  have hc1 := hS.b.cell
  have hc2 := hS.h.cell
  have hos : (ByteArray.mk S.o.toArray).size = S.o.length := mk_size _
  have ht := fun W => takeBits_any b (S.o.length + 1) W h1000 (by omega)
  have hok := takeG_ok b.data.toList (S.o.length + 1) 0 []
  unfold bitM
  generalize takeG b.data.toList (S.o.length + 1) 0 [] = A at *
  obtain ⟨o', u', er⟩ := A
  unfold takeV at ht
  simp only at ht ⊢
  have hol : er = 0 → o'.length = S.o.length + 1 := fun he => by
    have := (hok o' u' (by rw [he])).1
    simpa using this
  have hTs := mk_size o'
  have hTl := mk_list o'
  have hlast : (ByteArray.mk o'.toArray).data.toList.drop S.o.length = [o'.getD S.o.length 0] ∨ er ≠ 0 := by
    by_cases he : er = 0
    · left
      rw [hTl]
      have hl := hol he
      rw [List.drop_eq_getElem_cons (by omega), List.drop_of_length_le (by omega)]
      simp [List.getD, show S.o.length < o'.length by omega]
    · exact .inr he
  obtain ⟨T, hT⟩ : ∃ T, T = ByteArray.mk o'.toArray := ⟨_, rfl⟩
  rw [← hT] at ht hTs hTl hlast
  obtain ⟨H, hH⟩ : ∃ H, H = ByteArray.mk S.o.toArray := ⟨_, rfl⟩
  rw [← hH] at hc2 hos
  have harg : (H.size : Int) + 1 = ((S.o.length + 1 : Nat) : Int) := by omega
  have hHm : H.size ≤ 999 := by omega
  have HT := Hid.mk ht
  have HS := Hid.mk hS
  have HA := Hid.mk harg
  have HOL := Hid.mk hol
  have HTS := Hid.mk hTs
  have HTL := Hid.mk hTl
  have HLA := Hid.mk hlast
  have HTT := Hid.mk hT
  have HHH := Hid.mk hH
  clear ht hok hS hos harg hol hTs hTl hlast hT hH
  obtain ⟨n1, n2, n3, n4, n5, n6⟩ := HS.out.ne
  by_cases hf : S.fl = 0
  · rw [if_pos hf]
    by_cases he : er = 0
    · subst he
      have hol' := HOL.out rfl
      have hts' := HTS.out
      have HOS := Hid.mk (show T.size = S.o.length + 1 by omega)
      clear hol' hts'
      rw [if_pos rfl]
      go_enter Tryz.func54, Tryz.ntmps54
      go_wp2_with fail
      rw [HA.out]
      refine (HT.out w).mono ?_
      rintro e w1 ⟨rfl, hb1⟩
      have hS1 := HS.out.kept hb1
      have hc3 := hS1.f.cell
      have hz3 := hS1.f.frozen
      have hc4 := hS1.h.cell
      have hz4 := hS1.h.frozen
      have hc5 := hS1.a.cell
      have hz5 := hS1.a.frozen
      have HS1 := Hid.mk hS1
      have hT1 : Tch [gh, gf, ga] w w1 := Tch.of hb1
      clear hb1 hS1 hc1 hc2
      rw [hf] at hc3
      have hset := HS1.out.f.set (.int .i64 0)
      have hs1 := hset.cell
      have bk := HS1.out.h.other (.int .i64 0) n4
      have ba := HS1.out.a.other (.int .i64 0) (Ne.symm n6)
      have bb := HS1.out.b.other (.int .i64 0) n2
      have hk1 := bk.cell
      have hk2 := bk.frozen
      have hk3 := ba.cell
      have hk4 := ba.frozen
      have ba2 := ba.other (.string T) (Ne.symm n5)
      have hk5 := ba2.cell
      have hk6 := ba2.frozen
      have h3 := (hset.other (.string T) (Ne.symm n4)).other (.int .i64 u') n6
      have h2 := (bk.set (.string T)).other (.int .i64 u') n5
      have h1 := (bb.other (.string T) n1).other (.int .i64 u') n3
      have h4 := ba2.set (.int .i64 u')
      have HB := Hid.mk (And.intro h1 (And.intro h2 (And.intro h3 h4)))
      clear h1 h2 h3 h4 hset bk ba bb ba2
      have hTz : (1 : Int) ≤ (T.size : Int) := by have := HOS.out; omega
      have hTz2 : (T.size : Int) ≤ 1000 := by have := HOS.out; omega
      have hsl : ∀ W, (Instr.slice 9 (.string T) (some (.int .i64 ((T.size : Int) - 1))) none none).run Tryz.prog W = .ok (.string ⟨#[o'.getD S.o.length 0]⟩) W := by
        intro W
        rw [run_slice_string_l W _ T Tryz.underlying9 .i64 _ (by omega) (by omega)]
        have e1 : ((T.size : Int) - 1).toNat = S.o.length := by have := HOS.out; omega
        have e2 : T.size = S.o.length + 1 := by have := HOS.out; omega
        have e3 : (T.extract S.o.length T.size).data.toList = [o'.getD S.o.length 0] := by
          rw [e2, extract_list T S.o.length 1]
          rcases HLA.out with h | h
          · rw [h]; rfl
          · exact absurd rfl h
        rw [e1, ba_eq e3]
      go_wp2_with fail
      go_ret
      obtain ⟨h1, h2, h3, h4⟩ := HB.out
      refine ⟨rfl, ⟨h1, by rw [HTT.out] at h2 ⊢; exact h2, h3, h4, HS1.out.ne⟩, ((hT1.set (by simp) _).set (by simp) _).set (by simp) _⟩
    · rw [if_neg he]
      go_enter Tryz.func54, Tryz.ntmps54
      go_wp2_with fail
      rw [HA.out]
      refine (HT.out w).mono ?_
      rintro e w1 ⟨rfl, hb1⟩
      have hS1 := HS.out.kept hb1
      have hc3 := hS1.f.cell
      have hz3 := hS1.f.frozen
      have hc4 := hS1.h.cell
      have hz4 := hS1.h.frozen
      have hc5 := hS1.a.cell
      have hz5 := hS1.a.frozen
      have HS1 := Hid.mk hS1
      have hT1 : Tch [gh, gf, ga] w w1 := Tch.of hb1
      clear hb1 hS1 hc1 hc2
      rw [hf] at hc3
      have hs1 := (HS1.out.f.set (.int .i64 er)).cell
      have hne : (er != 0) = true := by simpa using he
      go_wp2_with fail
      go_ret
      refine ⟨rfl, ⟨HS1.out.b.other _ n2, HS1.out.h.other _ n4, HS1.out.f.set _, HS1.out.a.other _ (Ne.symm n6), HS1.out.ne⟩, hT1.set (by simp) _⟩
  · rw [if_neg hf]
    have h1 : (S.fl == 0) = false := by simpa using hf
    have h2 : (S.fl != 0) = true := by simpa using hf
    go_enter Tryz.func54, Tryz.ntmps54
    go_wp2_with fail
    rw [HA.out]
    refine (HT.out w).mono ?_
    rintro e w1 ⟨rfl, hb1⟩
    have hS1 := HS.out.kept hb1
    have hc3 := hS1.f.cell
    have hz3 := hS1.f.frozen
    have hc4 := hS1.h.cell
    have hz4 := hS1.h.frozen
    have hc5 := hS1.a.cell
    have hz5 := hS1.a.frozen
    have HS1 := Hid.mk hS1
    have hT1 : Tch [gh, gf, ga] w w1 := Tch.of hb1
    clear hb1 hS1 hc1 hc2
    go_wp2_with fail
    go_ret
    exact ⟨rfl, HS1.out, hT1⟩
end Bw
end Go.Proofs.YtemohjamcdkcmaaGreatDoor
namespace Go.Proofs.YtemohjamcdkcmaaGreatDoor
open Go.ChangeShapes Go.WideShapes Go.ChangeAt Go.RowKit
namespace Bw
open Bm Cm

set_option maxHeartbeats 1000000 in
theorem must3_any (gb gh gf ga : Nat) (b : ByteArray) (S : RS) (ok : Bool) (x : Int) (w : World) (hS : RSt w gb gh gf ga b S) :
    Calls Tryz.prog 57 #[.bool ok, .int .i64 x, .pointer (some ⟨gf, 0, none⟩)] w fun e w' =>
      e = .returned (.tuple #[]) ∧ RSt w' gb gh gf ga b (mustM S ok x) ∧ Tch [gh, gf, ga] w w' := by
  have hc := hS.f.cell
  have hz := hS.f.frozen
  obtain ⟨n1, n2, n3, n4, n5, n6⟩ := hS.ne
  have HS := Hid.mk hS
  unfold mustM
  clear hS
  by_cases hf : S.fl = 0
  · rw [hf] at hc
    cases ok
    · rw [if_pos ⟨hf, rfl⟩]
      go_enter Tryz.func57, Tryz.ntmps57
      go_wp2_with fail
      go_end0
      exact ⟨rfl, ⟨HS.out.b.other _ n2, HS.out.h.other _ n4, HS.out.f.set _, HS.out.a.other _ (Ne.symm n6), HS.out.ne⟩, (Tch.refl _ _).set (by simp) _⟩
    · rw [if_neg (by simp)]
      go_enter Tryz.func57, Tryz.ntmps57
      go_wp2_with fail
      go_end0
      exact ⟨rfl, HS.out, Tch.refl _ _⟩
  · rw [if_neg (by simp [hf])]
    have h1 : (S.fl == 0) = false := by simpa using hf
    go_enter Tryz.func57, Tryz.ntmps57
    go_wp2_with fail
    go_end0
    exact ⟨rfl, HS.out, Tch.refl _ _⟩

/-- the value of the small function that takes a bit -/
def bitF (gb gh gf ga : Nat) : Value := .func (.func 54) #[] #[.pointer (some ⟨gb, 0, none⟩), .pointer (some ⟨gh, 0, none⟩), .pointer (some ⟨gf, 0, none⟩), .pointer (some ⟨ga, 0, none⟩)]

set_option maxHeartbeats 2000000 in
theorem num2_any (gb gh gf ga gq n : Nat) (b : ByteArray) (S : RS) (w : World) (hS : RSt w gb gh gf ga b S) (hq : BoxAt w gq 74 (bitF gb gh gf ga)) (hqn : gq ≠ gh ∧ gq ≠ gf ∧ gq ≠ ga) (h1000 : b.size ≤ 1000) (hb : rowB b.data.toList = true) (hn : n ≤ 20) (ho : S.o.length + n ≤ 999) :
    Calls Tryz.prog 56 #[.int .i64 n, .pointer (some ⟨gq, 0, none⟩)] w fun e w' =>
      e = .returned (.int .i64 (numJ b.data.toList S n).1) ∧ RSt w' gb gh gf ga b (numJ b.data.toList S n).2 ∧ Tch [gh, gf, ga] w w' := by
  have HS := Hid.mk hS
  have HB := Hid.mk hb
  have HQ := Hid.mk hq
  have hqn' : gq ∉ [gh, gf, ga] := by simp [hqn]
  have HQN := Hid.mk hqn'
  clear hS hb hq hqn hqn'
  go_enter Tryz.func56, Tryz.ntmps56
  go_wp2_with fail
  go_loopw [4, 6] (fun v i wr => ∃ j : Nat, j ≤ n ∧ i = .int .i64 j ∧ v = .int .i64 (numJ b.data.toList S j).1 ∧ RSt wr gb gh gf ga b (numJ b.data.toList S j).2 ∧ Tch [gh, gf, ga] w wr) (fun _ i _ => n - (intOf i).toNat)
  case atStart => exact ⟨0, Nat.zero_le _, rfl, rfl, HS.out, Tch.refl _ _⟩
  case round =>
    obtain ⟨j, hj, rfl, rfl, hSr, htr⟩ := hrel
    by_cases hlt : j < n
    · have hlt' : (j : Int) < (n : Int) := by omega
      have hbox := (htr.box HQ.out HQN.out).cell
      unfold bitF at hbox
      have hl := numJ_len b.data.toList S j
      have hbit := bit1_any gb gh gf ga b (numJ b.data.toList S j).2 wr hSr h1000 (by omega)
      have hv := numJ_lt b.data.toList HB.out S j
      have hv20 : (numJ b.data.toList S j).1 < 2 ^ 20 := Nat.lt_of_lt_of_le hv (Nat.pow_le_pow_right (by omega) (by omega))
      have hvb : ((numJ b.data.toList S j).1 : Int) ≤ 1048575 := by omega
      have hd := bitM_bit b.data.toList HB.out (numJ b.data.toList S j).2
      have hd1 := bit_dig hd
      have HN : Hid ((numJ b.data.toList S (j + 1)) = (2 * (numJ b.data.toList S j).1 + dig (bitM b.data.toList (numJ b.data.toList S j).2).1, (bitM b.data.toList (numJ b.data.toList S j).2).2)) := Hid.mk rfl
      generalize (numJ b.data.toList S j).1 = v at *
      generalize (bitM b.data.toList (numJ b.data.toList S j).2).1 = c at *
      generalize (bitM b.data.toList (numJ b.data.toList S j).2).2 = S' at *
      have hcn := (bit_iff c).1 hd
      have hc48 : (48 : Int) ≤ (c.toNat : Int) := by omega
      have hc49 : (c.toNat : Int) ≤ 49 := by omega
      have HBI := Hid.mk hbit
      have HD := Hid.mk hd1
      clear hbit hv hv20 hd hd1 hcn hl
      go_wp2_with fail
      refine HBI.out.mono ?_
      rintro e w1 ⟨rfl, hS1, ht1⟩
      have ht2 := htr.trans ht1
      clear ht1 htr hSr HBI hbox
      have hidx : (ByteArray.mk #[c])[0]'(show 0 < 1 from Nat.zero_lt_one) = c := rfl
      go_wp2_with fail
      go_roundw
      case rel =>
        exact ⟨j + 1, by omega, by go_num, by rw [HN.out]; exact int_eq (by have := HD.out.2; simp only; omega), by rw [HN.out]; exact hS1, ht2⟩
      case measure => simp [intOf]; omega
    · have e : j = n := by omega
      subst e
      go_wp2_with fail
      go_ret
      exact ⟨rfl, hSr, htr⟩

set_option maxHeartbeats 2000000 in
theorem plain4_any (gb gh gf ga n : Nat) (b : ByteArray) (S : RS) (w : World) (hS : RSt w gb gh gf ga b S) (h1000 : b.size ≤ 1000) (hu : S.u ≤ 2000) (hn : n ≤ 1000) :
    Calls Tryz.prog 58 #[.int .i64 n, .pointer (some ⟨gf, 0, none⟩), .pointer (some ⟨ga, 0, none⟩), .pointer (some ⟨gb, 0, none⟩)] w fun e w' =>
      e = .returned (.string ⟨(nextP b.data.toList S n).1.toArray⟩) ∧ RSt w' gb gh gf ga b (nextP b.data.toList S n).2 ∧ Tch [gh, gf, ga] w w' := by
  have hc1 := hS.f.cell
  have hz1 := hS.f.frozen
  have hc2 := hS.a.cell
  have hz2 := hS.a.frozen
  have hc3 := hS.b.cell
  obtain ⟨n1, n2, n3, n4, n5, n6⟩ := hS.ne
  have hbl : b.data.toList.length = b.size := by simp
  have HS := Hid.mk hS
  unfold nextP
  rw [hbl]
  clear hS
  by_cases hf : S.fl = 0
  · rw [hf] at hc1
    rw [if_pos hf]
    by_cases hlt : b.size < S.u + n
    · rw [if_pos hlt]
      have hd : decide ((b.size : Int) < (S.u : Int) + (n : Int)) = true := by simp; omega
      have hs1 := (HS.out.f.set (.int .i64 7)).cell
      clear hbl
      go_enter Tryz.func58, Tryz.ntmps58
      go_wp2_with fail
      go_ret
      exact ⟨rfl, ⟨HS.out.b.other _ n2, HS.out.h.other _ n4, HS.out.f.set _, HS.out.a.other _ (Ne.symm n6), HS.out.ne⟩, (Tch.refl _ _).set (by simp) _⟩
    · rw [if_neg hlt]
      have hd : decide ((b.size : Int) < (S.u : Int) + (n : Int)) = false := by simp; omega
      have hs2 := (HS.out.a.set (.int .i64 ((S.u : Int) + (n : Int)))).cell
      have hs3 := (HS.out.b.other (.int .i64 ((S.u : Int) + (n : Int))) n3).cell
      have hle : (S.u : Int) + (n : Int) ≤ (b.size : Int) := by omega
      have hx : (b.extract S.u (S.u + n)).data.toList = (b.data.toList.drop S.u).take n := extract_list b S.u n
      have hsl : ∀ W, (Instr.slice 9 (.string b) (some (.int .i64 (S.u : Int))) (some (.int .i64 ((S.u : Int) + (n : Int)))) none).run Tryz.prog W = .ok (.string ⟨((b.data.toList.drop S.u).take n).toArray⟩) W := by
        intro W
        rw [run_slice_string W _ b _ _ _ _ Tryz.underlying9 (by omega) (by omega) (by omega)]
        have e1 : ((S.u : Int)).toNat = S.u := by omega
        have e2 : ((S.u : Int) + (n : Int)).toNat = S.u + n := by omega
        rw [e1, e2, ba_eq hx]
      generalize ByteArray.mk ((b.data.toList.drop S.u).take n).toArray = T at *
      have hbox := HS.out.a.set (.int .i64 ((S.u : Int) + (n : Int)))
      have HBX := Hid.mk hbox
      clear hbl hx hbox
      go_enter Tryz.func58, Tryz.ntmps58
      set_option maxRecDepth 100000 in
      go_wp2_with fail
      go_ret
      refine ⟨rfl, ⟨HS.out.b.other _ n3, HS.out.h.other _ n5, by rw [← hf]; exact HS.out.f.other _ n6, ?_, HS.out.ne⟩, (Tch.refl _ _).set (by simp) _⟩
      have h := HBX.out
      rw [show ((S.u : Int) + (n : Int)) = ((S.u + n : Nat) : Int) by omega] at h ⊢
      exact h
  · rw [if_neg hf]
    have h1 : (S.fl == 0) = false := by simpa using hf
    have h2 : (S.fl != 0) = true := by simpa using hf
    clear hbl
    go_enter Tryz.func58, Tryz.ntmps58
    go_wp2_with fail
    go_ret
    exact ⟨rfl, HS.out, Tch.refl _ _⟩
end Bw
end Go.Proofs.YtemohjamcdkcmaaGreatDoor
