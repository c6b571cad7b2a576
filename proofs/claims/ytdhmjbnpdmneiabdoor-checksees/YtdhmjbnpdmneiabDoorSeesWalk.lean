/- The law CheckSees returns true where the bits that are turned lie within as many in a row as the sum has. -/
import Derived.Test.YtdhmjbnpdmneiabDoorBitsCheck
import Derived.Test.YtdhmjbnpdmneiabDoorSeesEarly
import Derived.Test.YtdhmjbnpdmneiabDoorFlipMath
import Derived.Test.YtdhmjbnpdmneiabDoorConvRow
namespace Go.Proofs.YtdhmjbnpdmneiabDoor
open Go.ChangeShapes Go.WideShapes Go.ChangeAt Go.RowKit
namespace Bw
open Bm Cm

theorem sum_holds (k : Nat) (l : List UInt8) (n : Nat) (hn : n = l.length + kS k) : decide ((l ++ sumL k l).drop (n - kS k) = sumL k ((l ++ sumL k l).take (n - kS k))) = true := by
  have e : n - kS k = l.length := by omega
  rw [e, List.drop_left, List.take_left]
  simp
theorem flip_holds (k : Nat) (hk : k ≤ 4) (l p : List UInt8) (i n : Nat) (hn : n = l.length + kS k) (hl : rowB l = true) (hp : rowB p = true) (h49 : (49 : UInt8) ∈ p) (hps : p.length ≤ kS k) (hi : i + p.length ≤ l.length + kS k) :
    rowB (flipJ (l ++ sumL k l) i p p.length) = true ∧
    decide ((flipJ (l ++ sumL k l) i p p.length).drop (n - kS k) = sumL k ((flipJ (l ++ sumL k l) i p p.length).take (n - kS k))) = false := by
  have e : n - kS k = l.length := by omega
  obtain ⟨h1, h2⟩ := flip_sees k hk l (sumL k l) p i hl (sumL_row k l) hp h49 hps (sumL_len k l) hi (sumL_val k hk l)
  refine ⟨h1, ?_⟩
  rw [e, decide_eq_false_iff_not]
  intro h
  apply h2
  rw [h, sumL_val k hk]

set_option maxHeartbeats 4000000 in
theorem sees_ok (k : Nat) (b : ByteArray) (ai : Nat) (p : ByteArray) (w : World) (hR : RulesAt w) (m : Int) (hm : w.cell? ⟨1, 0, none⟩ = some (.int .i64 m)) (hc : checkE b.data.toList = 0) (hk : k ≤ 4) (hcp : checkE p.data.toList = 0)
    (h49 : Lib.contains p.data.toList [49] = true) (h1 : p.size ≤ kS k) (h2 : b.size + kS k ≤ 1000) (h4 : ai + p.size ≤ b.size + kS k) :
    Calls Tryd.prog 5 #[.int .i64 k, .string b, .int .i64 ai, .string p] w fun e w' => e = .returned (.bool true) ∧ Below w.heap.size w w' := by
  have HR := Hid.mk hR
  have HZ := Hid.mk (fun W hW => size_ok k W hW hk)
  obtain ⟨s8, s21, _⟩ := kinds_ok k hk
  obtain ⟨h1000, hrow⟩ := small_of_check hc
  obtain ⟨hp1000, hprow⟩ := small_of_check hcp
  have hpc := fun W => check_any p W (by unfold maxLen; omega)
  rw [hcp] at hpc
  have HP := Hid.mk hpc
  have hcon := fun W hW => Tryd.strings_Contains p ⟨#[49]⟩ m W (by omega) hW
  rw [show (ByteArray.mk #[49]).data.toList = [49] from rfl, h49] at hcon
  have HCON := Hid.mk hcon
  have HM := Hid.mk hm
  have hss := fun W hW => sum_ok k b W hW hc hk
  have hbl : b.data.toList.length = b.size := by simp
  have hpl : p.data.toList.length = p.size := by simp
  have hSl : (ByteArray.mk (sumL k b.data.toList).toArray).data.toList = sumL k b.data.toList := by simp
  have hSs : (ByteArray.mk (sumL k b.data.toList).toArray).size = kS k := by rw [ba_size hSl, sumL_len]
  generalize ByteArray.mk (sumL k b.data.toList).toArray = S at *
  have HS := Hid.mk hss
  obtain ⟨X, hX⟩ : ∃ X, X = b ++ S := ⟨_, rfl⟩
  have hXl : X.data.toList = b.data.toList ++ sumL k b.data.toList := by rw [hX, ba_cat, hSl]
  have hXs : X.size = b.size + kS k := by rw [ba_size hXl, List.length_append, sumL_len, hbl]
  have hXr : rowB X.data.toList = true := by rw [hXl, rowB_append, hrow, sumL_row]; rfl
  have hh1 := fun W hW => holds_ok k X W hW (checkE_row hXr (by rw [Array.length_toList]; show X.size ≤ 1000; omega)) hk (by omega)
  rw [hXl, sum_holds k _ X.size (by omega)] at hh1
  have HH1 := Hid.mk hh1
  obtain ⟨hYr, hYf⟩ := flip_holds k hk b.data.toList p.data.toList ai X.size (by omega) hrow hprow ((contains_one _ _).1 h49) (by omega) (by omega)
  rw [← hXl] at hYr hYf
  have hYlen : (flipJ X.data.toList ai p.data.toList p.data.toList.length).length = X.size := by rw [flipJ_len]; simp
  have hYl : (ByteArray.mk (flipJ X.data.toList ai p.data.toList p.data.toList.length).toArray).data.toList = flipJ X.data.toList ai p.data.toList p.data.toList.length := by simp
  have hYs : (ByteArray.mk (flipJ X.data.toList ai p.data.toList p.data.toList.length).toArray).size = X.size := by rw [ba_size hYl, hYlen]
  obtain ⟨Y, hY⟩ : ∃ Y, Y = ByteArray.mk (flipJ X.data.toList ai p.data.toList p.data.toList.length).toArray := ⟨_, rfl⟩
  rw [← hY] at hYl hYs
  have hh2 := fun W hW => holds_ok k Y W hW (checkE_row (by rw [hYl]; exact hYr) (by rw [hYl, hYlen]; omega)) hk (by omega)
  rw [hYl, hYs, hYf] at hh2
  have HH2 := Hid.mk hh2
  have HX := Hid.mk hX
  have HY := Hid.mk hY
  have HYN := Hid.mk hYlen
  have HPL := Hid.mk hpl
  have HXS := Hid.mk hXs
  have HSS := Hid.mk hSs
  have hX1000 : X.size ≤ 1000 := by omega
  have hpX : ai + p.size ≤ X.size := by omega
  have hle : decide ((kS k : Int) < (p.size : Int)) = false := by simp; omega
  have hlt2 : decide ((1000 : Int) < (b.size : Int) + (kS k : Int)) = false := by simp; omega
  have hlt3 : decide ((ai : Int) < 0) = false := by simp
  have hlt4 : decide ((b.size : Int) + (kS k : Int) - (p.size : Int) < (ai : Int)) = false := by simp; omega
  have hcat : b.size + S.size ≤ 1000 := by omega
  clear hR hc hcp hpc hcon hm hss hbl hpl hSl hXl hXr hh1 hYr hYf hYlen hYl hh2 hX hY hrow hprow h49 hYs hXs hSs
  go_enter Tryd.func5, Tryd.ntmps5
  go_wp2_with fail
  refine (HS.out w HR.out).mono ?_
  rintro e w1 ⟨rfl, hb1⟩
  have R1 := Hid.mk (HR.out.kept hb1)
  go_wp2_with fail
  refine (HZ.out w1 R1.out).mono ?_
  rintro e w2 ⟨rfl, hw2⟩
  subst hw2
  go_wp2_with fail
  refine (summed_any w2 R1.out).mono ?_
  rintro e w3 ⟨rfl, hb3⟩
  have hbel3 := bl2 hb1 hb3
  clear hb1 hb3 R1
  go_wp2_with fail
  refine (HP.out w3).mono ?_
  rintro e w4 ⟨rfl, hb4⟩
  have hbel4 := bl2 hbel3 hb4
  clear hb4 hbel3
  go_wp2_with fail
  refine (HCON.out w4 (cell_kept hbel4 HM.out)).mono ?_
  rintro e w5 ⟨rfl, hw5⟩
  subst hw5
  have hcv : (convert 9 37 (.string (b ++ S))).run Tryd.prog w5 = .ok (.slice (some ⟨w5.heap.size, 0, none⟩) X.size (grownCap w5 X.size 0 5)) (convW w5 X) := by
    rw [← HX.out]; exact conv_run w5 X
  set_option maxRecDepth 100000 in
  go_wp2_with fail
  obtain ⟨g, hg⟩ : ∃ g, g = w5.heap.size := ⟨_, rfl⟩
  have hgw : w.heap.size ≤ g := by rw [hg]; exact hbel4.size
  have hcn := conv_new w5 X
  have hbel6 := bl2 hbel4 (conv_below w5 X)
  rw [← hg] at hcn ⊢
  have HCN := Hid.mk hcn
  generalize convW w5 X = w6 at *
  clear hcv hcn hbel4 hg
  go_loopw [83] (fun i wr => ∃ j : Nat, j ≤ p.size ∧ i = .int .i64 j ∧ ConvAt wr g (flipJ X.data.toList ai p.data.toList j) ∧ Below w.heap.size w wr) (fun i _ => p.size - (intOf i).toNat)
  case atStart => exact ⟨0, Nat.zero_le _, rfl, by rw [flipJ_zero]; exact HCN.out, hbel6⟩
  case round =>
    clear HCN hbel6
    obtain ⟨j, hj, rfl, hcv, hbel⟩ := hrel
    have HCV := Hid.mk hcv
    clear hcv
    by_cases hlt : j < p.size
    · have hpj := at_getD p j hlt
      have HPJ := Hid.mk hpj
      have hin : ai + j < X.data.toList.length := by rw [Array.length_toList]; show ai + j < X.size; omega
      by_cases h49 : p[j] = 49
      · have hq : ((p[j].toNat : Int) == 49) = true := by rw [h49]; rfl
        obtain ⟨hce, hfz⟩ := HCV.out.2 (ai + j) (by rw [flipJ_len]; exact hin)
        have hget : (flipJ X.data.toList ai p.data.toList j).getD (ai + j) 0 = X.data.toList.getD (ai + j) 0 := by
          rw [List.getD, List.getD, flipJ_at]
        rw [hget] at hce
        have hset := HCV.out.set (ai + j) (by rw [flipJ_len]; exact hin) (xorB (X.data.toList.getD (ai + j) 0) (p.data.toList.getD j 0))
        rw [← flipJ_succ _ _ _ _ hin, ← hpj, h49] at hset
        have hxb : xorB (X.data.toList.getD (ai + j) 0) 49 = X.data.toList.getD (ai + j) 0 ^^^ 1 := by unfold xorB; rw [if_pos rfl]
        rw [hxb, ← xor_one] at hset
        generalize X.data.toList.getD (ai + j) 0 = c at *
        have HSET := Hid.mk hset
        have hij : ai + j < X.size := by simpa using hin
        have hij' : (ai : Int) + (j : Int) < (X.size : Int) := by omega
        clear hset hget hxb hpj hin h49
        go_wp2_with fail
        go_roundw
        case rel => exact ⟨j + 1, by omega, by go_num, HSET.out, hbel.setCell hgw _⟩
        case measure => simp [intOf]; omega
      · have hq : ((p[j].toNat : Int) == 49) = false := by
          rw [beq_eq_false_iff_ne]
          intro h
          exact h49 (UInt8.toNat_inj.1 (by show p[j].toNat = 49; omega))
        have hsame := flipJ_same X.data.toList ai p.data.toList j (by rw [← hpj]; exact h49)
        have HSA := Hid.mk hsame
        clear hsame hpj hin h49
        go_wp2_with fail
        go_roundw
        case rel => exact ⟨j + 1, by omega, by go_num, by rw [HSA.out]; exact HCV.out, hbel⟩
        case measure => simp [intOf]; omega
    · have e : j = p.size := by omega
      subst e
      go_wp2_with fail
      rw [← HX.out]
      refine (HH1.out wr (HR.out.kept hbel)).mono ?_
      rintro e w7 ⟨rfl, hb7⟩
      have hbel7 := bl2 hbel hb7
      have hbk : ∀ cap, (convert 37 9 (.slice (some ⟨g, 0, none⟩) X.size cap)).run Tryd.prog w7 = .ok (.string Y) w7 := by
        intro cap
        have h := HCV.out.kept hb7
        rw [← HPL.out] at h
        rw [HY.out]
        exact h.back cap X.size HYN.out
      clear hbel hb7
      go_wp2_with fail
      refine (HH2.out w7 (HR.out.kept hbel7)).mono ?_
      rintro e w8 ⟨rfl, hb8⟩
      have hbel8 := bl2 hbel7 hb8
      clear hbel7 hb8 hbk
      go_wp2_with fail
      go_ret
      exact ⟨rfl, hbel8⟩

theorem checkSeesLaw (k : Int) (b : ByteArray) (at_ : Int) (p : ByteArray) (w : World) (hb : b.size ≤ maxLen) (hp : p.size ≤ maxLen) (hR : RulesAt w) (m : Int) (hm : w.cell? ⟨1, 0, none⟩ = some (.int .i64 m)) :
    Calls Tryd.prog 5 #[.int .i64 k, .string b, .int .i64 at_, .string p] w fun e w' => e = .returned (.bool true) ∧ Below w.heap.size w w' := by
  by_cases hc : checkE b.data.toList = 0
  · by_cases h0 : k < 0
    · exact sees_who_neg k b at_ p w hR hb hc h0
    · by_cases h4 : 4 < k
      · exact sees_who_big k b at_ p w hR hb hc h4
      · obtain ⟨kd, rfl⟩ : ∃ kd : Nat, k = (kd : Int) := ⟨k.toNat, by omega⟩
        have hkd : kd ≤ 4 := by omega
        by_cases hcp : checkE p.data.toList = 0
        · cases h49 : Lib.contains p.data.toList [49] with
          | false => exact sees_none kd b at_ p w hR m hm hc hkd hcp h49
          | true =>
            by_cases h1 : kS kd < p.size
            · exact sees_long kd b at_ p w hR m hm hc hkd hcp h49 h1
            · by_cases h2 : 1000 < b.size + kS kd
              · exact sees_many kd b at_ p w hR m hm hc hkd hcp h49 (by omega) h2
              · by_cases h3 : at_ < 0
                · exact sees_left kd b at_ p w hR m hm hc hkd hcp h49 (by omega) (by omega) h3
                · by_cases h5 : (b.size : Int) + kS kd - p.size < at_
                  · exact sees_right kd b at_ p w hR m hm hc hkd hcp h49 (by omega) (by omega) (by omega) h5
                  · obtain ⟨ai, rfl⟩ : ∃ ai : Nat, at_ = (ai : Int) := ⟨at_.toNat, by omega⟩
                    exact sees_ok kd b ai p w hR m hm hc hkd hcp h49 (by omega) (by omega) (by omega)
        · exact sees_pat kd b at_ p w hR hc hkd hp hcp
  · by_cases h0 : k < 0
    · exact sees_bad_neg k b at_ p w hR hb hc h0
    · by_cases h4 : 4 < k
      · exact sees_bad_big k b at_ p w hR hb hc h4
      · obtain ⟨kd, rfl⟩ : ∃ kd : Nat, k = (kd : Int) := ⟨k.toNat, by omega⟩
        exact sees_bad_in kd b at_ p w hR hb hc (by omega)
end Bw
end Go.Proofs.YtdhmjbnpdmneiabDoor
