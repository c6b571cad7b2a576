/- The law BitsTurned returns true for all texts, where the tables of unicode/utf8 lie as they are laid and the one variable of internal/bytealg holds a number. -/
import Derived.Test.YtcoemhndpmdccaaDoorRepl4
import Derived.Test.YtcoemhndpmdccaaDoorRunMath
import Derived.Test.YtcoemhndpmdccaaDoorRef2
import Derived.Test.YtcoemhndpmdccaaDoorShelfCon
namespace Go.Proofs.YtcoemhndpmdccaaDoor
open Go.ChangeShapes Go.WideShapes Go.ChangeAt Go.RowKit
namespace Bw
open Bm

theorem repeat_one (d : UInt8) (c : Nat) : Lib.repeatL [d] c = List.replicate c d := by
  induction c with
  | zero => rfl
  | succ c ih => rw [Lib.repeatL, ih, List.replicate_succ]; rfl
theorem repC (d : UInt8) (c : Nat) (w : World) (hc : c ≤ 100000) :
    Calls Tryd.prog 23 #[.string ⟨#[d]⟩, .int .i64 c] w fun e w' => ∃ zb : ByteArray, e = .returned (.string zb) ∧ zb.data.toList = List.replicate c d ∧ Below w.heap.size w w' := by
  have := Tryd.strings_Repeat ⟨#[d]⟩ c w (by omega) (by show 1 * c ≤ _; omega)
  rw [show (ByteArray.mk #[d]).data.toList = [d] from rfl, repeat_one] at this
  exact this.mono fun e w' ⟨he, hb⟩ => ⟨_, he, mk_list _, hb⟩

set_option maxHeartbeats 4000000 in
theorem turnBad (b : ByteArray) (w : World) (hb : b.size ≤ maxLen) (hc : checkE b.data.toList ≠ 0) :
    Calls Tryd.prog 5 #[.string b] w fun e w' => e = .returned (.bool true) ∧ Below w.heap.size w w' := by
  have HB := Hid.mk hb
  have HC := Hid.mk hc
  have hc' : (checkE b.data.toList == 0) = false := by simpa using hc
  clear hb
  go_enter Tryd.func5, Tryd.ntmps5
  go_wp2_with fail
  refine (turned_bad b w HB.out HC.out).mono ?_
  rintro e w1 ⟨rfl, hb1⟩
  go_wp2_with fail
  refine (run_bad b w1 HB.out HC.out).mono ?_
  rintro e w2 ⟨rfl, hb2⟩
  go_wp2_with fail
  refine (checkRow_any b w2 HB.out).mono ?_
  rintro e w3 ⟨rfl, hw3⟩
  subst hw3
  go_wp2_with fail
  refine (rowed_any _).mono ?_
  rintro e w4 ⟨rfl, hb4⟩
  go_wp2_with fail
  refine (rowed_any _).mono ?_
  rintro e w5 ⟨rfl, hb5⟩
  go_wp2_with fail
  go_ret
  exact ⟨by first | rfl | exact (by simp), bl2 (bl2 (bl2 hb1 hb2) hb4) hb5⟩

set_option maxHeartbeats 8000000 in
theorem turnGood (b : ByteArray) (w : World) (hc : checkE b.data.toList = 0) (hT : Lib.Utf8Tabs 2 3 w) (m : Int) (hm : w.cell? ⟨0, 0, none⟩ = some (.int .i64 m)) :
    Calls Tryd.prog 5 #[.string b] w fun e w' => e = .returned (.bool true) ∧ Below w.heap.size w w' := by
  obtain ⟨h1000, hrow⟩ := small_of_check hc
  have ht := turned_ok b w hc hT
  have hrun := fun W => run_ok b W hc
  have hck := fun W => checkRow_any b W (by unfold maxLen; omega)
  rw [hc] at hck
  have hlen : b.data.toList.length = b.size := by simp
  have hrc := fun j hj => run_contains b.data.toList hrow j hj
  rw [hlen] at hrc
  have hRle := (runF_st b.data.toList b.size).2.2
  have HR := Hid.mk hrow
  have HM := Hid.mk hm
  have Hrun := Hid.mk hrun
  have HRC := Hid.mk hrc
  have HRL := Hid.mk hRle
  clear hc hT hrun hlen hrc hRle hrow hm
  generalize (runF b.data.toList b.size).1 = R at *
  generalize hbt : ByteArray.mk (b.data.toList.map oth).toArray = bt at *
  have HBT := Hid.mk hbt
  clear hbt
  go_enter Tryd.func5, Tryd.ntmps5
  go_wp2_with fail
  refine ht.mono ?_
  rintro e w1 ⟨rfl, hb1⟩
  clear ht
  go_wp2_with fail
  refine (Hrun.out w1).mono ?_
  rintro e w2 ⟨rfl, hb2⟩
  have hbel2 := bl2 hb1 hb2
  clear hb1 hb2 Hrun
  go_wp2_with fail
  refine (hck w2).mono ?_
  rintro e w3 ⟨rfl, hw3⟩
  subst hw3
  clear hck
  go_wp2_with fail
  refine (rowed_any _).mono ?_
  rintro e w4 ⟨rfl, hb4⟩
  have hbel4 := bl2 hbel2 hb4
  clear hb4 hbel2
  go_wp2_with fail
  have hon : OldNew (w4.alloc (.cells #[.string ⟨#[48]⟩, .string ⟨#[49]⟩, .string ⟨#[49]⟩, .string ⟨#[48]⟩] 9)) w4.heap.size := by
    refine ⟨?_, ?_, ?_, ?_⟩ <;> (rw [cell_of_row _ w4.heap.size _ _ _ _ (heap_alloc_new w4 _)]; rfl)
  have hb5 : Below w4.heap.size w4 (w4.alloc (.cells #[.string ⟨#[48]⟩, .string ⟨#[49]⟩, .string ⟨#[49]⟩, .string ⟨#[48]⟩] 9)) := (Below.refl _ _).alloc (Nat.le_refl _) _
  refine (newReplacer_any w4.heap.size 4 _ hon).mono ?_
  rintro e w6 ⟨B, S, cap, rfl, hB, hR6, hO6, hSB, hb6⟩
  have hbel6 := bl2 (bl2 hbel4 hb5) hb6
  have hBw : w.heap.size ≤ B := Nat.le_trans (bl2 hbel4 hb5).size hB
  have hrep := replace_any B S cap b w6 hR6 hO6 hSB h1000 HR.out
  rw [HBT.out] at hrep
  have HRP := Hid.mk hrep
  clear hon hb5 hb6 hbel4 hR6 hO6 hrep hB
  go_wp2_with fail
  refine HRP.out.mono ?_
  rintro e w7 ⟨rfl, hb7⟩
  have hbel7 : Below w.heap.size w w7 := hbel6.trans (hb7.mono hBw)
  clear hb7 hbel6 HRP
  go_wp2_with fail
  go_loopw [9] (fun i wr => ∃ k : Nat, k ≤ R ∧ i = .int .i64 k ∧ Below w.heap.size w wr) (fun i _ => R - (intOf i).toNat)
  case atStart => exact ⟨0, Nat.zero_le _, rfl, hbel7⟩
  case round =>
    obtain ⟨k, hk, rfl, hbel⟩ := hrel
    clear hbel7
    have hRs : (R : Int) ≤ (b.size : Int) := by have := HRL.out; omega
    by_cases hlt : k < b.size
    · have hlt' : (k : Int) < (b.size : Int) := by omega
      have hcast : ((k : Int) + 1) = ((k + 1 : Nat) : Int) := by omega
      have HCA := Hid.mk hcast
      clear hcast
      go_wp2_with fail
      rw [HCA.out]
      refine (repC 48 (k + 1) _ (by omega)).mono ?_
      rintro e w8 ⟨zb, rfl, hz, hb8⟩
      have hbel8 := bl2 hbel hb8
      have hcon := Tryd.strings_Contains b zb m w8 (by omega) (cell_kept hbel8 HM.out)
      rw [hz] at hcon
      have HCN := Hid.mk hcon
      clear hb8 hbel hcon hz
      go_wp2_with fail
      refine HCN.out.mono ?_
      rintro e w9 ⟨rfl, hw9⟩
      subst hw9
      clear HCN
      cases h48 : Lib.contains b.data.toList (List.replicate (k + 1) 48) with
      | true =>
        have hkR : k + 1 ≤ R := (HRC.out (k + 1) (by omega)).1 (Or.inl h48)
        go_wp2_with fail
        go_roundw
        case rel => exact ⟨k + 1, hkR, by go_num, hbel8⟩
        case measure => simp [intOf]; omega
      | false =>
        go_wp2_with fail
        rw [HCA.out]
        refine (repC 49 (k + 1) _ (by omega)).mono ?_
        rintro e w10 ⟨zb2, rfl, hz2, hb10⟩
        have hbel10 := bl2 hbel8 hb10
        have hcon := Tryd.strings_Contains b zb2 m w10 (by omega) (cell_kept hbel10 HM.out)
        rw [hz2] at hcon
        have HCN := Hid.mk hcon
        clear hb10 hbel8 hcon hz2
        go_wp2_with fail
        refine HCN.out.mono ?_
        rintro e w11 ⟨rfl, hw11⟩
        subst hw11
        clear HCN
        cases h49 : Lib.contains b.data.toList (List.replicate (k + 1) 49) with
        | true =>
          have hkR : k + 1 ≤ R := (HRC.out (k + 1) (by omega)).1 (Or.inr h49)
          go_wp2_with fail
          go_roundw
          case rel => exact ⟨k + 1, hkR, by go_num, hbel10⟩
          case measure => simp [intOf]; omega
        | false =>
          have hkR : R = k := by
            rcases Nat.lt_or_ge k R with h | h
            · rcases (HRC.out (k + 1) (by omega)).2 h with h' | h'
              · rw [h48] at h'; cases h'
              · rw [h49] at h'; cases h'
            · omega
          subst hkR
          go_wp2_with fail
          go_ret
          exact ⟨by first | rfl | exact (by simp), hbel10⟩
    · have hkR : R = k := by have := HRL.out; omega
      subst hkR
      have hge : (b.size : Int) ≤ (R : Int) := by omega
      go_wp2_with fail
      go_ret
      exact ⟨by first | rfl | exact (by simp), hbel⟩
end Bw
end Go.Proofs.YtcoemhndpmdccaaDoor
