/- The laws' own small functions on parts: partsOf, badData, sameSender, sameParts. -/
import Derived.Test.YtgjnfmbmndnihaaPtSplit
import Derived.Test.YtgjnfmbmndnihaaPtVar
import Derived.Test.YtgjnfmbmndnihaaEqualB
namespace Go.Proofs.Ytgjnfmbmndnihaa
open Go.ChangeShapes Go.WideShapes Go.ChangeAt Go.RowKit
namespace Bw
open Bm
set_option linter.unusedVariables false
theorem badData_any (a : Option Addr) (len cap : Nat) (w : World) (hl : len ≤ maxLen) :
    Calls Try.prog 11 #[.slice a len cap] w fun e w' => e = .returned (.int .i64 (szP len)) ∧ w' = w := by
  unfold maxLen at hl
  by_cases h0 : len = 0
  · subst h0
    rw [show szP 0 = 7 from rfl]
    go_enter Try.func11, Try.ntmps11
    go_wp2_with fail
    go_ret
    exact ⟨rfl, rfl⟩
  · by_cases h1 : 300 < len
    · rw [show szP len = 2 by unfold szP; rw [if_neg h0, if_pos h1]]
      have h0' : ((len : Int) == 0) = false := by simp; omega
      have h1' : (300 : Int) < (len : Int) := by omega
      clear h0
      go_enter Try.func11, Try.ntmps11
      go_wp2_with fail
      go_ret
      exact ⟨rfl, rfl⟩
    · rw [show szP len = 0 by unfold szP; rw [if_neg h0, if_neg h1]]
      have h0' : ((len : Int) == 0) = false := by simp; omega
      have h1' : ¬ ((300 : Int) < (len : Int)) := by omega
      clear h0
      go_enter Try.func11, Try.ntmps11
      go_wp2_with fail
      go_ret
      exact ⟨rfl, rfl⟩
theorem equal_is {w : World} {a b : Option Addr} {n m c d : Nat} {l : List UInt8} (ha : IsBytes w a n c l) (hb : IsBytes w b m d l) :
    Calls Try.prog 16 #[.slice a n c, .slice b m d] w fun e w' => e = .returned (.bool true) ∧ Below w.heap.size w w' := by
  have hm : m = n := by have := ha.1; have := hb.1; omega
  subst hm
  exact equalB_true w a b m c d l (Nat.le_trans ha.2.1 ha.2.2.1) (hasG ha) (hasG hb)
set_option maxHeartbeats 4000000 in
set_option maxRecDepth 100000 in
theorem sameSender_true (a b : Option Addr) (n m c d : Nat) (l : List UInt8) (k nx lf : Int) (dn : Bool) (w : World) (hA : IsBytes w a n c l) (hB : IsBytes w b m d l) :
    Calls Try.prog 13 #[sdV a n c k nx lf dn, sdV b m d k nx lf dn] w fun e w' => e = .returned (.bool true) ∧ Below w.heap.size w w' := by
  have hb2 := bl2 (awG w (sdC a n c k nx lf dn)) (awG (w.alloc (sdC a n c k nx lf dn)) (sdC b m d k nx lf dn))
  have HE := Hid.mk (equal_is (isBytes_below hA hb2) (isBytes_below hB hb2))
  have hR1 := (Row5.new w 28 (.slice a n c) (.int .i64 k) (.int .i64 nx) (.int .i64 lf) (.bool dn)).kept (awG _ (sdC b m d k nx lf dn))
  have hR2 : Row5 ((w.alloc (sdC a n c k nx lf dn)).alloc (sdC b m d k nx lf dn)) (w.heap.size + 1) 28 (.slice b m d) (.int .i64 k) (.int .i64 nx) (.int .i64 lf) (.bool dn) := new2P w _ _
  have HR1 := Hid.mk hR1
  have HR2 := Hid.mk hR2
  have HB := Hid.mk hb2
  unfold sdC at HE HR1 HR2 HB
  unfold sdV
  clear hA hB hb2 hR1 hR2
  go_enter Try.func13, Try.ntmps13
  go_wp2_with fail
  refine HE.out.mono ?_
  rintro e w1 ⟨rfl, hb1⟩
  obtain ⟨a0, a1, a2, a3, a4⟩ := (HR1.out.kept hb1).cells
  obtain ⟨b0, b1, b2, b3, b4⟩ := (HR2.out.kept hb1).cells
  have HB1 := Hid.mk (bl2 HB.out hb1)
  clear hb1 HE HR1 HR2 HB
  go_wp2_with fail
  go_ret
  exact ⟨by first | rfl | simp, HB1.out⟩
set_option maxHeartbeats 4000000 in
set_option maxRecDepth 100000 in
theorem equalFunc_true (a b : Option Addr) (n m c d : Nat) (L : List (List UInt8)) (w : World) (hA : IsPts w a n c L) (hB : IsPts w b m d L) :
    Calls Try.prog 32 #[.slice a n c, .slice b m d, .func (.func 16) #[] #[]] w fun e w' => e = .returned (.bool true) ∧ Below w.heap.size w w' := by
  have hmn : m = n := by have := hA.lens; have := hB.lens; omega
  subst hmn
  obtain ⟨hl, hc, hr, x, rfl, hx⟩ := hA
  obtain ⟨-, -, -, y, rfl, hy⟩ := hB
  unfold maxLen at hr
  have HX := Hid.mk hx
  have HY := Hid.mk hy
  clear hx hy
  go_enter Try.func32, Try.ntmps32
  go_wp2_with fail
  go_loopw [17] (fun i wr => ∃ k : Nat, k ≤ m ∧ i = .int .i64 k ∧ Hid (Below w.heap.size w wr)) (fun i _ => m - (intOf i).toNat)
  case atStart => exact ⟨0, Nat.zero_le _, rfl, Hid.mk (Below.refl _ _)⟩
  case round =>
    obtain ⟨k, hk, rfl, HB⟩ := hrel
    by_cases hlt : k < m
    · have hlt' : (k : Int) < (m : Int) := by omega
      obtain ⟨y1, c1, h1, h2, -⟩ := HX.out k (by omega)
      obtain ⟨y2, c2, h3, h4, -⟩ := HY.out k (by omega)
      have d1 := cell_kept HB.out h1
      have d2 := cell_kept HB.out h3
      have HE := Hid.mk (equal_is (isBytes_below h2 HB.out) (isBytes_below h4 HB.out))
      clear h1 h2 h3 h4
      generalize L[k].length = LK at *
      go_wp2_with fail
      refine HE.out.mono ?_
      rintro e w1 ⟨rfl, hb1⟩
      have HB1 := Hid.mk (bl2 HB.out hb1)
      clear hb1 d1 d2 HE
      go_wp2_with fail
      go_roundw
      case rel => exact ⟨k + 1, by omega, by go_num, HB1⟩
      case measure => simp [intOf]; omega
    · go_wp2_with fail
      go_ret
      exact ⟨rfl, HB.out⟩
theorem sameParts_true (a b : Option Addr) (n m c d : Nat) (L : List (List UInt8)) (w : World) (hA : IsPts w a n c L) (hB : IsPts w b m d L) :
    Calls Try.prog 15 #[.slice a n c, .slice b m d] w fun e w' => e = .returned (.bool true) ∧ Below w.heap.size w w' := by
  have HE := Hid.mk (equalFunc_true a b n m c d L w hA hB)
  clear hA hB
  go_enter Try.func15, Try.ntmps15
  go_wp2_with fail
  refine HE.out.mono ?_
  rintro e w1 ⟨rfl, hb1⟩
  have HB1 := Hid.mk hb1
  clear hb1 HE
  go_wp2_with fail
  go_ret
  exact ⟨rfl, HB1.out⟩
end Bw
end Go.Proofs.Ytgjnfmbmndnihaa
