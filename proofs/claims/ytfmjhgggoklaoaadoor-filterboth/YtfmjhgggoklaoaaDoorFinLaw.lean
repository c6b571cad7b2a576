/- The law FilterIn: its walk. -/
import Derived.Test.YtfmjhgggoklaoaaDoorFilIn
import Derived.Test.YtfmjhgggoklaoaaDoorFilEqual
import Derived.Test.YtfmjhgggoklaoaaDoorFilLets
namespace Go.Proofs.YtfmjhgggoklaoaaDoor
open Go.ChangeShapes Go.WideShapes Go.ChangeAt Go.RowKit
namespace Bw
open Bm Cm
/-- numbers in a row -/
def NumRowAt (w : World) (a : Option Addr) (n : Nat) (xs : List Int) : Prop := xs.length = n ∧ (a = none → n = 0) ∧ ∀ x, a = some x → ∀ i, i < n → w.cell? (x.add i) = some (.int .i64 (xs.getD i 0))
theorem NumRowAt.kept {w w' : World} {a : Option Addr} {n : Nat} {xs : List Int} (h : NumRowAt w a n xs) (hb : Below w.heap.size w w') : NumRowAt w' a n xs := ⟨h.1, h.2.1, fun x hx i hi => cell_kept hb (h.2.2 x hx i hi)⟩
theorem nums_of {w : World} {base : Nat} {v : Value} {l : List Int} (h : w.ownsRow base 3 1 v l.length (numC l)) : ∃ a cap, v = .slice a l.length cap ∧ NumRowAt w a l.length l := by
  rcases h.2 with ⟨hv, hn⟩ | ⟨g, cap, cur, hv, _, hh, hc, hm, hsz, htk⟩
  · have hl : l = [] := by simpa using hn
    subst hl
    exact ⟨none, 0, hv, rfl, fun _ => rfl, fun x hx => by cases hx⟩
  · refine ⟨_, cap, hv, rfl, (fun h => by cases h), ?_⟩
    intro x hx i hi
    cases hx
    subst hv
    exact h.cells (g := g) rfl i _ (by simp [numC, List.getD, hi])
set_option maxHeartbeats 2000000 in
theorem equalI_true (w : World) (a b : Option Addr) (n c d : Nat) (xs : List Int) (hn : n ≤ 1000) (ha : NumRowAt w a n xs) (hb : NumRowAt w b n xs) :
    Calls Tryd.prog 15 #[.slice a n c, .slice b n d] w fun e w' => e = .returned (.bool true) ∧ Below w.heap.size w w' := by
  have HA := Hid.mk ha
  have HB := Hid.mk hb
  clear ha hb
  go_enter Tryd.func15, Tryd.ntmps15
  go_wp2
  go_loopw [13] (fun i w' => ∃ k : Nat, k ≤ n ∧ i = .int .i64 k ∧ ∃ m, w' = w.drewN m) (fun i _ => n - (intOf i).toNat)
  case atStart => exact ⟨0, Nat.zero_le _, rfl, 0, rfl⟩
  case round =>
    obtain ⟨k, hk, rfl, m, rfl⟩ := hrel
    by_cases hlt : k < n
    · obtain ⟨x, rfl⟩ : ∃ x, a = some x := by
        cases a with
        | none => exact absurd (HA.out.2.1 rfl) (by omega)
        | some x => exact ⟨x, rfl⟩
      obtain ⟨y, rfl⟩ : ∃ x, b = some x := by
        cases b with
        | none => exact absurd (HB.out.2.1 rfl) (by omega)
        | some x => exact ⟨x, rfl⟩
      have g1 := HA.out.2.2 x rfl k hlt
      have g2 := HB.out.2.2 y rfl k hlt
      generalize xs.getD k 0 = z at *
      have hlt' : (k : Int) < (n : Int) := by omega
      go_wp2
      go_quiet (fail)
      go_wp2
      go_roundw
      case rel => exact ⟨k + 1, by omega, by go_num, _, rfl⟩
      case measure => simp [intOf]; omega
    · go_wp2
      go_ret
      exact ⟨rfl, ⟨rfl, rfl, rfl, Nat.le_refl _, fun _ _ => rfl⟩⟩
theorem frEn_id {id : Int} {lo fa re : Bool} {sz : Int} {len : Nat} (h : frEn id lo fa re sz len = 0) : 0 ≤ id ∧ id ≤ topN lo := by
  unfold frEn at h
  split at h
  · cases h
  · rename_i h1
    have e : topI lo = (topN lo : Int) := by unfold topI topN; cases lo <;> rfl
    omega
/-- the document's own CheckFrame, as a premise -/
def ChkFrIs : Prop := ∀ (id : Int) (lo fa re : Bool) (sz : Int) (a : Option Addr) (len cap : Nat) (w : World), len ≤ 9223372036854775807 →
    Calls Tryd.prog 13 #[frameV id lo fa re sz a len cap] w fun e w' => e = .returned (.int .i64 (frEn id lo fa re sz len)) ∧ Below w.heap.size w w'
set_option maxHeartbeats 4000000 in
set_option maxRecDepth 100000 in
theorem fin_bad (a : Option Addr) (n c : Nat) (l : List Fl) (id : Int) (lo fa re : Bool) (sz : Int) (fa0 : Option Addr) (len cap : Nat) (w : World) (hF : IsFils w a n c l) (hL : LastsAt w) (hE : chkFl l ≠ 0) :
    Calls Tryd.prog 3 #[.slice a n c, frameV id lo fa re sz fa0 len cap] w fun e w' => e = .returned (.bool true) ∧ Below w.heap.size w w' := by
  have hb := below_box w id lo fa re sz fa0 len cap
  obtain ⟨k0, k1, k2, k3, k4, k5⟩ := FrAt.box w id lo fa re sz fa0 len cap
  have HA := Hid.mk (in_bad a n c l id lo fa re sz fa0 len cap _ (hF.kept hb) (hL.kept hb) hE)
  have HR := Hid.mk (fun W (hb : Below w.heap.size w W) => checkFilters_any a n c l W (hF.kept hb))
  have HK := Hid.mk (fun W (hb : Below w.heap.size w W) => fcheck_any a n c l W (hF.kept hb) (hL.kept hb))
  have HFI := Hid.mk (fun W (hb : Below w.heap.size w W) => filtered_any W (hL.kept hb))
  have HB := Hid.mk hb
  have he : (chkFl l != 0) = true := by simpa using hE
  have he2 : (chkFl l == 0) = false := by simpa using hE
  clear hF hL hE hb
  generalize chkFl l = ec at *
  unfold frameC at HB HA k0 k1 k2 k3 k4 k5
  unfold frameV at HA ⊢
  go_enter Tryd.func3, Tryd.ntmps3
  go_wp2_with fail
  refine HA.out.mono ?_
  rintro e w1 ⟨rfl, hb1⟩
  have HB1 := Hid.mk (bl2 HB.out hb1)
  clear hb1
  go_wp2_with fail
  refine (HR.out _ HB1.out).mono ?_
  rintro e w2 ⟨rfl, hb2⟩
  have HB2 := Hid.mk (bl2 HB1.out hb2)
  clear hb2
  go_wp2_with fail
  refine (HFI.out _ HB2.out).mono ?_
  rintro e w3 ⟨rfl, hb3⟩
  have HB3 := Hid.mk (bl2 HB2.out hb3)
  clear hb3
  go_wp2_with fail
  refine (HK.out _ HB3.out).mono ?_
  rintro e w4 ⟨rfl, hb4⟩
  have HB4 := Hid.mk (bl2 HB3.out hb4)
  clear hb4
  go_wp2_with fail
  go_ret
  exact ⟨rfl, HB4.out⟩
set_option maxHeartbeats 4000000 in
set_option maxRecDepth 100000 in
theorem fin_frame (hCF : ChkFrIs) (a : Option Addr) (n c : Nat) (l : List Fl) (id : Int) (lo fa re : Bool) (sz : Int) (fa0 : Option Addr) (len cap : Nat) (w : World) (hF : IsFils w a n c l) (hL : LastsAt w) (hS : SizesAt w) (hlen : len ≤ maxLen) (hE : chkFl l = 0) (hG : frEn id lo fa re sz len ≠ 0) :
    Calls Tryd.prog 3 #[.slice a n c, frameV id lo fa re sz fa0 len cap] w fun e w' => e = .returned (.bool true) ∧ Below w.heap.size w w' := by
  have hb := below_box w id lo fa re sz fa0 len cap
  have HFR := Hid.mk (FrAt.box w id lo fa re sz fa0 len cap)
  obtain ⟨k0, k1, k2, k3, k4, k5⟩ := FrAt.box w id lo fa re sz fa0 len cap
  have HA := Hid.mk (in_frame a n c l id lo fa re sz fa0 len cap _ (hF.kept hb) (hL.kept hb) (hS.kept hb) hlen hE hG)
  have hR := fun W (hb : Below w.heap.size w W) => checkFilters_any a n c l W (hF.kept hb)
  have hK := fun W (hb : Below w.heap.size w W) => fcheck_any a n c l W (hF.kept hb) (hL.kept hb)
  rw [hE] at hR hK
  have HR := Hid.mk hR
  have HK := Hid.mk hK
  have HCF := Hid.mk (fun W => hCF id lo fa re sz fa0 len cap W (by unfold maxLen at hlen; omega))
  have HFI := Hid.mk (fun W (hb : Below w.heap.size w W) => filtered_any W (hL.kept hb))
  have HB := Hid.mk hb
  have he : (frEn id lo fa re sz len != 0) = true := by simpa using hG
  clear hF hL hE hb hG hS hR hK hlen hCF
  generalize frEn id lo fa re sz len = ec at *
  unfold frameC at HB HA k0 k1 k2 k3 k4 k5 HFR
  unfold frameV at HA HCF ⊢
  go_enter Tryd.func3, Tryd.ntmps3
  go_wp2_with fail
  refine HA.out.mono ?_
  rintro e w1 ⟨rfl, hb1⟩
  have HB1 := Hid.mk (bl2 HB.out hb1)
  have HFR1 := Hid.mk (HFR.out.kept hb1)
  clear hb1 k0 k1 k2 k3 k4 k5
  go_wp2_with fail
  refine (HR.out _ HB1.out).mono ?_
  rintro e w2 ⟨rfl, hb2⟩
  have HB2 := Hid.mk (bl2 HB1.out hb2)
  have HFR2 := Hid.mk (HFR1.out.kept hb2)
  clear hb2
  go_wp2_with fail
  refine (HFI.out _ HB2.out).mono ?_
  rintro e w3 ⟨rfl, hb3⟩
  have HB3 := Hid.mk (bl2 HB2.out hb3)
  have HFR3 := Hid.mk (HFR2.out.kept hb3)
  clear hb3
  go_wp2_with fail
  refine (HK.out _ HB3.out).mono ?_
  rintro e w4 ⟨rfl, hb4⟩
  have HB4 := Hid.mk (bl2 HB3.out hb4)
  obtain ⟨k0, k1, k2, k3, k4, k5⟩ := HFR3.out.kept hb4
  clear hb4
  go_wp2_with fail
  refine (HCF.out _).mono ?_
  rintro e w5 ⟨rfl, hb5⟩
  have HB5 := Hid.mk (bl2 HB4.out hb5)
  clear hb5
  go_wp2_with fail
  go_ret
  exact ⟨rfl, HB5.out⟩
set_option maxHeartbeats 8000000 in
set_option maxRecDepth 100000 in
theorem fin_ok (hCF : ChkFrIs) (a : Option Addr) (n c : Nat) (l : List Fn) (id : Nat) (lo fa re : Bool) (sz : Int) (fa0 : Option Addr) (len cap : Nat) (w : World) (hF : IsFils w a n c (l.map Fn.f)) (hL : LastsAt w) (hS : SizesAt w) (hlen : len ≤ maxLen) (hok : ∀ x ∈ l, okN x) (hn : n ≤ 16) (hG : frEn id lo fa re sz len = 0) (hid : id ≤ topN lo) :
    Calls Tryd.prog 3 #[.slice a n c, frameV id lo fa re sz fa0 len cap] w fun e w' => e = .returned (.bool true) ∧ Below w.heap.size w w' := by
  obtain ⟨i0, hi, hz0, hz1, hz2⟩ := info_parts info_intF
  have hln : l.length = n := by have := hF.len; simpa using this
  have hb := below_box w id lo fa re sz fa0 len cap
  have HFR := Hid.mk (FrAt.box w id lo fa re sz fa0 len cap)
  obtain ⟨k0, k1, k2, k3, k4, k5⟩ := FrAt.box w id lo fa re sz fa0 len cap
  have HA := Hid.mk (in_ok a n c l id lo fa re sz fa0 len cap _ (hF.kept hb) (hL.kept hb) (hS.kept hb) hlen hok hn hG hid)
  have hR := fun W (hb : Below w.heap.size w W) => checkFilters_any a n c _ W (hF.kept hb)
  have hK := fun W (hb : Below w.heap.size w W) => fcheck_any a n c _ W (hF.kept hb) (hL.kept hb)
  rw [chk_ok hok (by omega)] at hR hK
  have HR := Hid.mk hR
  have HK := Hid.mk hK
  have hC2 := fun W => hCF id lo fa re sz fa0 len cap W (by unfold maxLen at hlen; omega)
  rw [hG] at hC2
  have HCF := Hid.mk hC2
  have HFI := Hid.mk (fun W (hb : Below w.heap.size w W) => filtered_any W (hL.kept hb))
  have HB := Hid.mk hb
  have HF := Hid.mk hF
  have HOK := Hid.mk hok
  have HLN := Hid.mk hln
  have htl := topN_le lo
  have HLI := Hid.mk (fun x W (hx : okN x) => letsIn_any x id lo fa re sz fa0 len cap W hx (by omega))
  have hil := inFK_len l lo id l.length
  clear hF hL hb hG hS hR hK hlen hCF hC2 hok hid htl
  obtain ⟨N, hN⟩ : ∃ N, N = (inN l lo id).length := ⟨_, rfl⟩
  have hN16 : N ≤ 16 := by rw [hN]; unfold inN; omega
  have HN := Hid.mk hN
  clear hN hil hln
  unfold frameC at HB HA k0 k1 k2 k3 k4 k5 HFR
  unfold frameV at HA HCF ⊢
  go_enter Tryd.func3, Tryd.ntmps3
  go_wp2_with fail
  refine HA.out.mono ?_
  rintro e w1 ⟨v, rfl, hown, hb1⟩
  obtain ⟨am, cm, rfl, hM⟩ := nums_of hown
  rw [← HN.out] at hM ⊢
  have HM1 := Hid.mk hM
  have HB1 := Hid.mk (bl2 HB.out hb1)
  have HFR1 := Hid.mk (HFR.out.kept hb1)
  clear hb1 k0 k1 k2 k3 k4 k5 hown hM HA HFR HB
  go_wp2_with fail
  refine (HR.out _ HB1.out).mono ?_
  rintro e w2 ⟨rfl, hb2⟩
  have HB2 := Hid.mk (bl2 HB1.out hb2)
  have HFR2 := Hid.mk (HFR1.out.kept hb2)
  have HM2 := Hid.mk (HM1.out.kept hb2)
  clear hb2 HR HB1 HFR1 HM1
  go_wp2_with fail
  refine (HFI.out _ HB2.out).mono ?_
  rintro e w3 ⟨rfl, hb3⟩
  have HB3 := Hid.mk (bl2 HB2.out hb3)
  have HFR3 := Hid.mk (HFR2.out.kept hb3)
  have HM3 := Hid.mk (HM2.out.kept hb3)
  clear hb3 HFI HB2 HFR2 HM2
  go_wp2_with fail
  refine (HK.out _ HB3.out).mono ?_
  rintro e w4 ⟨rfl, hb4⟩
  have HB4 := Hid.mk (bl2 HB3.out hb4)
  have HFR4 := Hid.mk (HFR3.out.kept hb4)
  have HM4 := Hid.mk (HM3.out.kept hb4)
  obtain ⟨k0, k1, k2, k3, k4, k5⟩ := HFR4.out
  clear hb4 HK HB3 HFR3 HM3
  go_wp2_with fail
  refine (HCF.out _).mono ?_
  rintro e w5 ⟨rfl, hb5⟩
  have HB5 := Hid.mk (bl2 HB4.out hb5)
  have HFR5 := Hid.mk (HFR4.out.kept hb5)
  have HM5 := Hid.mk (HM4.out.kept hb5)
  have HF5 := Hid.mk (HF.out.kept HB5.out)
  clear hb5 HCF HB4 HFR4 HM4 k0 k1 k2 k3 k4 k5 HF
  go_wp2_with fail
  go_loopw [8, 43] (fun v i wr => ∃ k : Nat, k ≤ n ∧ i = .int .i64 k ∧ Hid (wr.ownsRow w5.heap.size 3 1 v (inFK l lo id k).length (numC (inFK l lo id k))) ∧ Hid (Below w5.heap.size w5 wr)) (fun _ i _ => n - (intOf i).toNat)
  case atStart => exact ⟨0, Nat.zero_le _, rfl, Hid.mk (World.ownsRow_nil _ _ _ _), Hid.mk (Below.refl _ _)⟩
  case round =>
    obtain ⟨k, hk, rfl, HO, HB⟩ := hrel
    by_cases hlt : k < n
    · have hlt' : (k : Int) < (n : Int) := by omega
      obtain ⟨X, rfl⟩ := fils_some HF5.out hlt
      obtain ⟨c0, c1, c2⟩ := fils_at (HF5.out.kept HB.out) hlt
      have HOX := Hid.mk (getD_ok HOK.out k)
      have HM : Hid (inFK l lo id (k + 1) = inFK l lo id k ++ (if hitN (l.getD k ⟨0, 0, false⟩) lo id = true then [(k : Int)] else [])) := Hid.mk rfl
      have hlk := inFK_len l lo id k
      obtain ⟨x, hx⟩ : ∃ x, x = l.getD k ⟨0, 0, false⟩ := ⟨_, rfl⟩
      rw [map_getD l k (by rw [HLN.out]; exact hlt), ← hx] at c0 c1 c2
      rw [← hx] at HM HOX
      have hb6 := box1_below wr x.f
      have HB6 := Hid.mk (bl2 HB.out hb6)
      have HO6 := Hid.mk (ownsRow_below HO.out hb6)
      obtain ⟨k0, k1, k2, k3, k4, k5⟩ := (HFR5.out.kept HB.out).kept hb6
      have HH := Hid.mk (fun W => HLI.out x W HOX.out)
      unfold box1 at HB6 HO6 k0 k1 k2 k3 k4 k5
      unfold Fn.f at c0 c1 c2 HB6 HO6 HH k0 k1 k2 k3 k4 k5
      unfold Fl.val at HH
      simp only at c0 c1 c2 HB6 HO6 HH
      clear hx hb6 HOX
      cases hit : hitN x lo id
      · rw [hit] at HH HM
        have hm := HM.out
        simp only [Bool.false_eq_true, if_false, List.append_nil] at hm
        have HM1 := Hid.mk hm
        clear hm HM hit
        go_wp2_with fail
        refine (HH.out _).mono ?_
        rintro e w7 ⟨rfl, hb7⟩
        have HB7 := Hid.mk (bl2 HB6.out hb7)
        have HO7 := Hid.mk (ownsRow_below HO6.out hb7)
        clear hb7
        go_wp2_with fail
        go_roundw
        case rel => exact ⟨k + 1, by omega, by go_num, by rw [HM1.out]; exact HO7, HB7⟩
        case measure => simp [intOf]; omega
      · rw [hit] at HH HM
        have hm := HM.out
        simp only [if_true] at hm
        have HM1 := Hid.mk hm
        have hlk' : (inFK l lo id k).length ≤ 16 := by omega
        clear hm HM hit
        go_wp2_with fail
        refine (HH.out _).mono ?_
        rintro e w7 ⟨rfl, hb7⟩
        have HB7 := Hid.mk (bl2 HB6.out hb7)
        have HO7 := Hid.mk (ownsRow_below HO6.out hb7)
        clear hb7
        go_wp2_with (at_builtin; refine wpList_append_own _ rfl (.tmp 51) (.tmp 53) 26 rfl w5.heap.size 3 i0 (.int .i64 0) 1 8 Tryd.underlying26 hi hz0 hz1 hz2 rfl (by decide) _ _ _ rfl (HO7.out.alloc _) ⟨w7.heap.size, 0, none⟩ 1 1 [Value.int .i64 k] rfl rfl (by intro q u hq; match q, hq with | 0, hq => (simp at hq; subst hq; simp [Addr.add])) (by intro u hu; simp at hu; subst hu; rfl) (by unfold maxLen; omega) (by omega) (by have := HB7.out.size; simp; omega) ?_; intro v8 w8 hown8 hgrow8 _)
        have hB8 : Below w5.heap.size w5 w8 := Below.grown (HB7.out.alloc HB7.out.size _) hgrow8 (by have := HB7.out.size; simp; omega) (fun q hq => (HO7.out.lt q hq).1)
        have hown9 := hown8
        rw [show numC (inFK l lo id k) ++ [Value.int .i64 k] = numC (inFK l lo id (k + 1)) by rw [HM1.out, numC_append]; rfl, show (inFK l lo id k).length + 1 = (inFK l lo id (k + 1)).length by rw [HM1.out]; simp] at hown9
        have HO9 := Hid.mk hown9
        have HB9 := Hid.mk hB8
        clear hown8 hown9 hB8 hgrow8
        go_roundw
        case rel => exact ⟨k + 1, by omega, by go_num, HO9, HB9⟩
        case measure => simp [intOf]; omega
    · have e : k = n := by omega
      subst e
      have hO := HO.out
      rw [show inFK l lo id k = inN l lo id by unfold inN; rw [HLN.out]] at hO
      obtain ⟨a2, cap2, hv2, hF2⟩ := nums_of hO
      rw [← HN.out] at hv2 hF2
      subst hv2
      have HEQ := Hid.mk (equalI_true _ am a2 N cm cap2 _ (by omega) (HM5.out.kept HB.out) hF2)
      have HBB := Hid.mk (bl2 HB5.out HB.out)
      clear hO hF2
      go_wp2_with fail
      refine HEQ.out.mono ?_
      rintro e w9 ⟨rfl, hb9⟩
      have HB9 := Hid.mk (bl2 HBB.out hb9)
      clear hb9
      go_wp2_with fail
      go_ret
      exact ⟨rfl, HB9.out⟩
end Bw
end Go.Proofs.YtfmjhgggoklaoaaDoor
