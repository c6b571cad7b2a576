/- Joined out of our texts: RefTake. -/
import Derived.Test.YthdhhmflfdbkhaaGreatDoorLawFrameReadRAP
import Derived.Test.YthdhhmflfdbkhaaGreatDoorLawFrameReadRAQ
/- What the document's own TakeBits answers of a row and a number. -/
namespace Go.Proofs.YthdhhmflfdbkhaaGreatDoor
open Go.ChangeShapes Go.WideShapes Go.ChangeAt Go.RowKit
namespace Bw
open Bm

def lenOf : Value → Nat | .string s => s.size | _ => 0

set_option maxHeartbeats 1000000 in
theorem same_any (t : ByteArray) (c : UInt8) (w : World) (h0 : 0 < t.size) (hm : t.size ≤ 1000) (hc : t[0] = c) :
    Calls Tryz.prog 66 #[.string t] w fun e w' => e = .returned (.bool ((Lib.countByte t.data.toList c : Int) == (t.size : Int))) ∧ w' = w := by
  have hsl : ∀ W, (Instr.slice 9 (.string t) none (some (.int .i64 1)) none).run Tryz.prog W = .ok (.string ⟨#[c]⟩) W := by
    intro W
    rw [run_slice_string_h W _ t Tryz.underlying9 .i64 _ (by omega) (by omega)]
    rw [show t.extract 0 (1 : Int).toNat = ⟨#[c]⟩ by rw [← hc]; exact one_at t 0 h0]
  have hcn := fun W => Tryz.strings_Count_one t c W
  generalize Lib.countByte t.data.toList c = q at *
  clear hc
  go_enter Tryz.func66, Tryz.ntmps66
  go_wp2_with fail
  refine (hcn _).mono ?_
  rintro e w1 ⟨rfl, hw1⟩
  subst hw1
  clear hcn
  go_wp2_with fail
  go_ret
  exact ⟨rfl, rfl⟩

set_option maxHeartbeats 8000000 in
theorem takeBits_any (s : ByteArray) (n : Nat) (w : World) (h1000 : s.size ≤ 1000) (hn : n ≤ 1000) :
    Calls Tryz.prog 32 #[.string s, .int .i64 n] w fun e w' => e = .returned (takeV (takeG s.data.toList n 0 [])) ∧ Below w.heap.size w w' := by
  obtain ⟨A, hA⟩ : ∃ A, A = takeG s.data.toList n 0 [] := ⟨_, rfl⟩
  rw [← hA]
  have HA := Hid.mk hA
  clear hA
  have hll : s.data.toList.length = s.size := by simp
  have HLL := Hid.mk hll
  clear hll
  go_enter Tryz.func32, Tryz.ntmps32
  go_wp2_with fail
  go_loopw [7, 8] (fun r i wr => ∃ (u : Nat) (sb : ByteArray), u ≤ s.size ∧ sb.size ≤ n ∧ i = .int .i64 u ∧ r = .string sb ∧ (endR (s.data.toList.take u)).2 ≤ 4 ∧ takeG s.data.toList (n - sb.size) u sb.data.toList = A ∧ Below w.heap.size w wr) (fun r _ _ => n - lenOf r)
  case atStart => exact ⟨0, ⟨#[]⟩, Nat.zero_le _, Nat.zero_le _, rfl, rfl, by simp [endR], HA.out.symm, Below.refl _ _⟩
  case round =>
    obtain ⟨u, sb, hu, hsn, rfl, rfl, h4, hG, hbel⟩ := hrel
    have HG := Hid.mk hG
    have H4 := Hid.mk h4
    clear hG h4
    by_cases hkn : sb.size < n
    · have hkn' : (sb.size : Int) < (n : Int) := by omega
      have hm : n - sb.size = (n - (sb.size + 1)) + 1 := by omega
      have HM := Hid.mk hm
      clear hm
      by_cases hlt : u < s.size
      · have hlt' : (u : Int) < (s.size : Int) := by omega
        obtain ⟨c, hcE⟩ : ∃ c, c = s[u] := ⟨_, rfl⟩
        have hgd : s.data.toList.getD u 0 = c := by rw [hcE, at_getD s u hlt]
        have HGD := Hid.mk hgd
        have hcv : s[u] = c := hcE.symm
        have hsl : ∀ W, (Instr.slice 9 (.string s) (some (.int .i64 (u : Int))) (some (.int .i64 ((u : Int) + 1))) none).run Tryz.prog W = .ok (.string ⟨#[c]⟩) W := by
          intro W
          rw [run_slice_string W _ s _ _ _ _ Tryz.underlying9 (by omega) (by omega) (by omega)]
          rw [show s.extract (u : Int).toNat ((u : Int) + 1).toNat = ⟨#[c]⟩ by rw [show (u : Int).toNat = u by omega, show ((u : Int) + 1).toNat = u + 1 by omega, one_at s u hlt, hcE]]
        have hon := end_on s.data.toList u (by rw [HLL.out]; exact hlt) H4.out
        have hfive := end_five s.data.toList u (by rw [HLL.out]; exact hlt) H4.out
        have HON := Hid.mk hon
        have HFIVE := Hid.mk hfive
        have hXl : (sb ++ ⟨#[c]⟩).data.toList = sb.data.toList ++ [c] := ba_cat _ _
        have HXL := Hid.mk hXl
        have hXs : (sb ++ ⟨#[c]⟩).size = sb.size + 1 := by rw [ByteArray.size_append]; rfl
        have HXS := Hid.mk hXs
        have htl : (s.data.toList.take (u + 1)).length = u + 1 := by rw [List.length_take, HLL.out]; omega
        have HTL := Hid.mk htl
        clear hcE hgd hon hfive hXl hXs htl
        by_cases hge : 4 ≤ u
        · have hge' : (5 : Int) ≤ (u : Int) + 1 := by omega
          obtain ⟨t5, ht5⟩ : ∃ t5, t5 = s.extract (u - 4) (u + 1) := ⟨_, rfl⟩
          have hsl5 : ∀ W, (Instr.slice 9 (.string s) (some (.int .i64 ((u : Int) + 1 - 5))) (some (.int .i64 ((u : Int) + 1))) none).run Tryz.prog W = .ok (.string t5) W := by
            intro W
            rw [run_slice_string W _ s _ _ _ _ Tryz.underlying9 (by omega) (by omega) (by omega)]
            rw [show ((u : Int) + 1 - 5).toNat = u - 4 by omega, show ((u : Int) + 1).toNat = u + 1 by omega, ht5]
          have ht5s : t5.size = 5 := by rw [ht5, ByteArray.size_extract]; omega
          have ht5l : t5.data.toList = (s.data.toList.take (u + 1)).drop ((s.data.toList.take (u + 1)).length - 5) := by
            have e2 := extract_list s (u - 4) 5
            rw [show u - 4 + 5 = u + 1 by omega] at e2
            rw [ht5, e2, HTL.out, show u + 1 - 5 = u - 4 by omega, List.drop_take, show u + 1 - (u - 4) = 5 by omega]
          obtain ⟨d, hdE⟩ : ∃ d, d = t5[0] := ⟨_, rfl⟩
          have hcnt : Lib.countByte t5.data.toList d = 5 ↔ (endR (s.data.toList.take (u + 1))).2 = 5 := by
            have hd0 : (s.data.toList.take (u + 1)).getD ((s.data.toList.take (u + 1)).length - 5) 0 = d := by
              rw [hdE, at_getD t5 0 (by omega), ht5l]
              simp [List.getD]
            rw [ht5l]
            exact five_iff' _ HFIVE.out (by rw [HTL.out]; omega) d hd0
          have hsame := fun W => same_any t5 d W (by omega) (by omega) hdE.symm
          rw [ht5s] at hsame
          generalize Lib.countByte t5.data.toList d = q at *
          have HSAME := Hid.mk hsame
          have HCNT := Hid.mk hcnt
          clear hsame hcnt ht5l ht5s ht5 hdE
          go_wp2_with fail
          refine (HSAME.out _).mono ?_
          rintro e w1 ⟨rfl, hw1⟩
          subst hw1
          clear HSAME hsl5 hsl
          by_cases h5 : (endR (s.data.toList.take (u + 1))).2 = 5
          · have hq : ((q : Int) == ((5 : Nat) : Int)) = true := by rw [HCNT.out.2 h5]; rfl
            have H5 := Hid.mk h5
            clear h5
            by_cases hlt2 : u + 1 < s.size
            · have hlt2' : (u : Int) + 1 < (s.size : Int) := by omega
              obtain ⟨d2, hd2E⟩ : ∃ d2, d2 = s[u + 1] := ⟨_, rfl⟩
              have hgd2 : s.data.toList.getD (u + 1) 0 = d2 := by rw [hd2E, at_getD s (u + 1) hlt2]
              have HGD2 := Hid.mk hgd2
              have hdv : s[u + 1] = d2 := hd2E.symm
              clear hd2E hgd2
              by_cases h6 : d2 = c
              · have h6' : ((d2.toNat : Int) == (c.toNat : Int)) = true := by rw [h6]; simp
                have hfin : A = ([], 0, 5) := by
                  rw [← HG.out, HM.out]
                  exact takeG_six _ _ _ _ (by rw [HLL.out]; exact hlt2) H5.out (by rw [HGD.out, HGD2.out]; exact h6)
                subst hfin
                clear h6
                go_wp2_with fail
                go_quiet (fail)
                go_wp2_with fail
                go_ret3
                exact ⟨rfl, hbel.trans ⟨rfl, rfl, rfl, Nat.le_refl _, fun _ _ => rfl⟩⟩
              · have h6' : ((d2.toNat : Int) == (c.toNat : Int)) = false := by
                  have : d2.toNat ≠ c.toNat := fun h => h6 (UInt8.toNat_inj.1 h)
                  rw [beq_eq_false_iff_ne]; omega
                have hG2 : takeG s.data.toList (n - (sb ++ ⟨#[c]⟩).size) (u + 2) (sb ++ ⟨#[c]⟩).data.toList = A := by
                  rw [HXS.out, HXL.out, ← HG.out, HM.out, takeG_on5 _ _ _ _ (by rw [HLL.out]; exact hlt2) H5.out (by rw [HGD.out, HGD2.out]; exact h6), HGD.out]
                have HG2 := Hid.mk hG2
                have hon := end_on5 s.data.toList u (by rw [HLL.out]; exact hlt2) (by rw [HGD.out, HGD2.out]; exact h6)
                have hon' : (endR (s.data.toList.take (u + 2))).2 ≤ 4 := by rw [hon]; simp
                have HON2 := Hid.mk hon'
                clear h6 hG2 hon hon'
                go_wp2_with fail
                go_quiet (fail)
                go_wp2_with fail
                go_roundw
                case rel => exact ⟨u + 2, sb ++ ⟨#[c]⟩, by omega, by rw [HXS.out]; omega, int_eq (by omega), rfl, HON2.out, HG2.out, hbel.trans ⟨rfl, rfl, rfl, Nat.le_refl _, fun _ _ => rfl⟩⟩
                case measure => show n - (sb ++ ⟨#[c]⟩).size < n - sb.size; rw [HXS.out]; omega
            · have hlt2' : ((u : Int) + 1 == (s.size : Int)) = true := by simp; omega
              have hfin : A = ([], 0, 7) := by
                rw [← HG.out, HM.out]
                exact takeG_end5 _ _ _ _ (by rw [HLL.out]; omega) H5.out
              subst hfin
              go_wp2_with fail
              go_ret3
              exact ⟨rfl, hbel⟩
          · have hq : ((q : Int) == ((5 : Nat) : Int)) = false := by
              rw [beq_eq_false_iff_ne]
              exact fun e => h5 (HCNT.out.1 (by omega))
            have hG2 : takeG s.data.toList (n - (sb ++ ⟨#[c]⟩).size) (u + 1) (sb ++ ⟨#[c]⟩).data.toList = A := by
              rw [HXS.out, HXL.out, ← HG.out, HM.out, takeG_on _ _ _ _ (by rw [HLL.out]; exact hlt) h5, HGD.out]
            have HG2 := Hid.mk hG2
            have hon := HON.out h5
            have HON2 := Hid.mk hon
            clear h5 hG2 hon
            go_wp2_with fail
            go_roundw
            case rel => exact ⟨u + 1, sb ++ ⟨#[c]⟩, by omega, by rw [HXS.out]; omega, int_eq (by omega), rfl, HON2.out, HG2.out, hbel⟩
            case measure => show n - (sb ++ ⟨#[c]⟩).size < n - sb.size; rw [HXS.out]; omega
        · have hge' : decide ((5 : Int) ≤ (u : Int) + 1) = false := by simp; omega
          have h5 : (endR (s.data.toList.take (u + 1))).2 ≠ 5 := by
            have := endR_le (s.data.toList.take (u + 1))
            rw [HTL.out] at this
            omega
          have hG2 : takeG s.data.toList (n - (sb ++ ⟨#[c]⟩).size) (u + 1) (sb ++ ⟨#[c]⟩).data.toList = A := by
            rw [HXS.out, HXL.out, ← HG.out, HM.out, takeG_on _ _ _ _ (by rw [HLL.out]; exact hlt) h5, HGD.out]
          have HG2 := Hid.mk hG2
          have hon := HON.out h5
          have HON2 := Hid.mk hon
          clear h5 hG2 hon
          go_wp2_with fail
          go_roundw
          case rel => exact ⟨u + 1, sb ++ ⟨#[c]⟩, by omega, by rw [HXS.out]; omega, int_eq (by omega), rfl, HON2.out, HG2.out, hbel⟩
          case measure => show n - (sb ++ ⟨#[c]⟩).size < n - sb.size; rw [HXS.out]; omega
      · have hlt' : ((u : Int) == (s.size : Int)) = true := by simp; omega
        have hfin : A = ([], 0, 7) := by
          rw [← HG.out, HM.out]
          exact takeG_end _ _ _ _ (by rw [HLL.out]; omega)
        subst hfin
        go_wp2_with fail
        go_ret3
        exact ⟨rfl, hbel⟩
    · have e : sb.size = n := by omega
      have hge : (n : Int) ≤ (sb.size : Int) := by omega
      have hge2 : decide ((sb.size : Int) < (n : Int)) = false := by rw [decide_eq_false_iff_not]; omega
      have hfin : A = (sb.data.toList, u, 0) := by rw [← HG.out, e, Nat.sub_self, takeG_zero]
      have hfin2 : takeV A = .tuple #[.string sb, .int .i64 u, .int .i64 0] := by
        rw [hfin]; unfold takeV; simp only [← ba_eq (show sb.data.toList = sb.data.toList from rfl)]
      have HF := Hid.mk hfin2
      clear hfin hfin2 e
      go_wp2_with fail
      go_ret3
      exact ⟨by rw [HF.out]; try rfl, hbel⟩
end Bw
end Go.Proofs.YthdhhmflfdbkhaaGreatDoor
