/- What omnibusbig's left answers of any words: the number moved up. -/
import Derived.Test.YtopoogdoepdedaaDoorWordsMul
import Derived.Laws.BitsAllLaws
namespace Go.Proofs.YtopoogdoepdedaaDoor
open Go.ChangeShapes Go.WideShapes Go.ChangeAt Go.RowKit
namespace Ww
open Wm Bm

theorem or_low (o v S : Nat) (ho : o < 2 ^ S) (hS : S < 32) (h : v % 2 ^ S = 0) : o ||| v % 4294967296 = o + v % 4294967296 := by
  have e : (v % 4294967296) % 2 ^ S = 0 := by
    rw [show 4294967296 = 2 ^ S * 2 ^ (32 - S) by rw [← Nat.pow_add, show S + (32 - S) = 32 by omega], Nat.mod_mul_right_mod]; exact h
  obtain ⟨q, hq⟩ : ∃ q, v % 4294967296 = 2 ^ S * q := ⟨v % 4294967296 / 2 ^ S, by have := Nat.div_add_mod (v % 4294967296) (2 ^ S); omega⟩
  rw [hq, Nat.or_comm, ← Nat.two_pow_add_eq_or_of_lt ho q]
  omega

theorem left_arith {V1 V2 r1 r2 o U P P1 A : Nat} (hr1 : r1 = o + U % 4294967296) (hr2 : r2 = U / 4294967296) (hp : P1 = P * 4294967296)
    (e1 : V2 = V1 + P1 * r2) (e2 : V1 + P * o = A + P * r1) : V2 = A + P * U := by
  have hUU : P * U = P * (U % 4294967296) + P * 4294967296 * (U / 4294967296) := by
    rw [Nat.mul_assoc, ← Nat.mul_add]; congr 1; omega
  rw [hUU, e1, hp, hr2]
  rw [hr1, Nat.mul_add] at e2
  generalize P * (U % 4294967296) = X at *
  generalize P * 4294967296 * (U / 4294967296) = Y at *
  generalize P * o = Z at *
  omega
theorem left_step {V1 V2 r1 r2 o U xk k W S : Nat} {xs : List Nat} (hr1 : r1 = o + U % 4294967296) (hr2 : r2 = U / 4294967296) (hU : U = xk * 2 ^ S) (hx : xk = xs.getD k 0) (hk : k < xs.length)
    (e1 : V2 = V1 + 2 ^ (32 * (k + W + 1)) * r2) (e2 : V1 + 2 ^ (32 * (k + W)) * o = 2 ^ (32 * W) * (valW (xs.take k) * 2 ^ S) + 2 ^ (32 * (k + W)) * r1) :
    V2 = 2 ^ (32 * W) * (valW (xs.take (k + 1)) * 2 ^ S) := by
  have hA := left_arith hr1 hr2 (pow32 (k + W)) e1 e2
  have hq : 2 ^ (32 * (k + W)) = 2 ^ (32 * W) * 2 ^ (32 * k) := by rw [← Nat.pow_add, Nat.mul_add, Nat.add_comm]
  have hlen : (xs.take k).length = k := by rw [List.length_take]; omega
  rw [take_snocN xs k hk, valW_snoc, hlen, ← hx, hA, hq, hU]
  rw [Nat.add_mul, Nat.mul_add, Nat.mul_assoc (2 ^ (32 * k)), Nat.mul_assoc (2 ^ (32 * W))]

set_option maxHeartbeats 8000000 in
theorem left_some (va : Value) (xs : List Nat) (n W S : Nat) (w : World) (ha : IsW w va xs) (hla : xs.length ≤ 10000) (h0 : 0 < xs.length) (hn : n = 32 * W + S) (hS : S < 32) (hW : W ≤ 1000) :
    Calls Tryd.prog 54 #[va, .int .u64 n] w fun e w' => ∃ v' rs, e = .returned v' ∧ IsW w' v' rs ∧ valW rs = valW xs * 2 ^ n ∧ trimW rs ∧ rs.length ≤ xs.length + W + 1 ∧ Below w.heap.size w w' := by
  obtain ⟨a, ca, rfl, hca, hma, hna, hcea, hoa⟩ := ha
  have HCA := Hid.mk hcea
  have HNA := Hid.mk hna
  have HOA := Hid.mk hoa
  obtain ⟨nA, hnA⟩ : ∃ n, n = xs.length := ⟨_, rfl⟩
  rw [← hnA] at hla h0 ⊢
  have HLA := Hid.mk hnA
  have g0 : ((nA : Int) == 0) = false := by simp; omega
  have hq : (n : Int) / 32 = (W : Int) := by omega
  have hr : (n : Int) % 32 = (S : Int) := by omega
  have hn2 : (n : Int) ≤ 40000 := by omega
  have HN := Hid.mk hn
  obtain ⟨i0, hi, hz0, hz1, hz2⟩ := info_parts info_u32
  clear hcea hna hoa hnA hca hma hn
  go_enter Tryd.func54, Tryd.ntmps54
  go_wp2_with (at_make; refine wpList_make_full _ rfl (.tmp 22) (.tmp 22) 56 rfl w.heap.size 99 i0 (.int .u32 0) 1 Tryd.underlying56 hi hz0 hz1 .i64 .i64 _ _ (nA + W + 1) rfl rfl (by omega) (by omega) (by rw [hz2]; omega) (by unfold maxLen; omega) (Nat.le_refl _) ?_; intro w2 hown hgrow)
  have hown0 : w2.ownsRow w.heap.size 99 1 (.slice (some ⟨w.heap.size, 0, none⟩) (nA + W + 1) (nA + W + 1)) (nA + W + 1) (cellsW (List.replicate (nA + W + 1) 0)) := by
    have := cellsW_rep (nA + W + 1)
    rw [List.nil_append, Nat.sub_zero] at this
    rw [this, ← toList_madeCells_one]
    rw [Nat.mul_one] at hown
    exact hown
  have hb2 : Below w.heap.size w w2 := Below.grown (Below.refl _ _) hgrow (Nat.le_refl _) (fun q hq => by cases hq)
  clear hown hgrow hi hz0 hz1 hz2 g0 hq hr
  go_wp2_with fail
  go_loopw [8] (fun i wr => ∃ (k : Nat) (rs : List Nat), k ≤ nA ∧ i = .int .i64 k ∧ rs.length = nA + W + 1 ∧ okW rs ∧ (∀ p, k + W + 1 ≤ p → rs.getD p 0 = 0) ∧ rs.getD (k + W) 0 < 2 ^ S ∧ valW rs = 2 ^ (32 * W) * (valW (xs.take k) * 2 ^ S) ∧
      wr.ownsRow w.heap.size 99 1 (.slice (some ⟨w.heap.size, 0, none⟩) (nA + W + 1) (nA + W + 1)) (nA + W + 1) (cellsW rs) ∧ Below w.heap.size w wr) (fun i _ => nA - (intOf i).toNat)
  case atStart => exact ⟨0, List.replicate (nA + W + 1) 0, Nat.zero_le _, rfl, by simp, (fun x hx => by rw [List.eq_of_mem_replicate hx]; omega), (fun p _ => by simp [List.getD, List.getElem?_replicate]; split <;> rfl), by rw [show (List.replicate (nA + W + 1) 0).getD (0 + W) 0 = 0 by simp [List.getD, List.getElem?_replicate]; split <;> rfl]; exact Nat.two_pow_pos S, by rw [valW_zeros]; simp [valW], hown0, hb2⟩
  case round =>
    clear hown0 hb2
    obtain ⟨k, rs, hk, rfl, hrl, hro, hrz, hrc, hrv, hown, hbel⟩ := hrel
    have HRL := Hid.mk hrl
    have HRO := Hid.mk hro
    have HRZ := Hid.mk hrz
    have HRV := Hid.mk hrv
    have HRC := Hid.mk hrc
    clear hrl hro hrz hrv hrc
    by_cases hlt : k < nA
    · cases a with
      | none => exact absurd (HNA.out rfl) (by have := HLA.out; omega)
      | some p =>
        have hcx := Bw.cell_kept hbel (HCA.out p rfl k (by have := HLA.out; omega))
        have hxk := okW_getD HOA.out k
        obtain ⟨xk, hxE⟩ : ∃ xk, xk = xs.getD k 0 := ⟨_, rfl⟩
        rw [← hxE] at hcx hxk
        have HXE := Hid.mk hxE
        have hlt' : (k : Int) < (nA : Int) := by omega
        have hx' : (xk : Int) ≤ 4294967295 := by omega
        have hc3 := hown.cellAt (k + W) (by omega)
        have hf3 := hown.frozenAt (k + W)
        rw [cellsW_get rs (k + W) (by have := HRL.out; omega)] at hc3
        have hok := okW_getD HRO.out (k + W)
        obtain ⟨o, hoE⟩ : ∃ o, o = rs.getD (k + W) 0 := ⟨_, rfl⟩
        rw [← hoE] at hc3 hok
        have HOE := Hid.mk hoE
        have ho' : (o : Int) ≤ 4294967295 := by omega
        obtain ⟨U, hU⟩ : ∃ U, U = xk * 2 ^ S := ⟨_, rfl⟩
        have hU1 : U ≤ 4294967295 * 2147483648 := by
          rw [hU]
          exact Nat.mul_le_mul (by omega) (by
            have : 2 ^ S ≤ 2 ^ 31 := Nat.pow_le_pow_right (by omega) (by omega)
            omega)
        have hUi : (U : Int) ≤ 9223372034707292160 := by omega
        have hsh : IntKind.u64.wrap ((xk : Int) * 2 ^ S) = (U : Int) := by
          have e : (xk : Int) * 2 ^ S = (U : Int) := by rw [hU]; simp
          rw [e, IntKind.wrap_u64]; omega
        have hor1 : o ||| U % 4294967296 = o + U % 4294967296 := or_low o U S (by rw [HOE.out]; exact HRC.out) hS (by rw [hU]; exact Nat.mul_mod_left _ _)
        have hoU : o + U % 4294967296 < 4294967296 := by rw [← hor1]; exact Nat.or_lt_two_pow (n := 32) (by omega) (by omega)
        obtain ⟨r1, hr1⟩ : ∃ r1, r1 = o + U % 4294967296 := ⟨_, rfl⟩
        have hb1 : bits .or .u32 (o : Int) ((U : Int) % 4294967296) = (r1 : Int) := by
          rw [show (U : Int) % 4294967296 = ((U % 4294967296 : Nat) : Int) by omega, u32_or_nat o _ (by omega) (by omega), hor1, hr1]
        obtain ⟨r2, hr2⟩ : ∃ r2, r2 = U / 4294967296 := ⟨_, rfl⟩
        have hr2b : r2 < 2 ^ S := by
          rw [hr2, hU]
          apply Nat.div_lt_of_lt_mul
          exact Nat.mul_lt_mul_of_pos_right (by omega) (Nat.two_pow_pos S)
        have hb2 : bits .or .u32 0 ((U : Int) / 4294967296) = (r2 : Int) := by
          have := u32_or_nat 0 (U / 4294967296) (by omega) (by omega)
          rw [Nat.zero_or] at this
          rw [show (U : Int) / 4294967296 = ((U / 4294967296 : Nat) : Int) by omega, hr2]
          exact this
        have hst1 := hown.stored (k + W) (.int .u32 (r1 : Int))
        rw [cellsW_setAt] at hst1
        have hbel1 := hbel.grown hst1.2 hbel.size (fun q hq => by cases hq; exact Nat.le_refl _)
        have hl1 : (rs.set (k + W) r1).length = nA + W + 1 := by rw [List.length_set]; exact HRL.out
        have hz1 : (rs.set (k + W) r1).getD (k + W + 1) 0 = 0 := set_zero HRZ.out (by omega) _ (by omega)
        have hc4 := hst1.1.cellAt (k + W + 1) (by omega)
        rw [cellsW_get _ (k + W + 1) (by omega), hz1] at hc4
        have hf4 := hst1.1.frozenAt (k + W + 1)
        have hst2 := hst1.1.stored (k + W + 1) (.int .u32 (r2 : Int))
        rw [cellsW_setAt] at hst2
        have hbel2 := hbel1.grown hst2.2 hbel1.size (fun q hq => by cases hq; exact Nat.le_refl _)
        have hok2 : okW ((rs.set (k + W) r1).set (k + W + 1) r2) := okW_set (okW_set HRO.out _ _ (by omega)) _ _ (by omega)
        have hz2 : ∀ p, k + 1 + W + 1 ≤ p → ((rs.set (k + W) r1).set (k + W + 1) r2).getD p 0 = 0 := fun p hp =>
          set_zero (q := k + 1 + W + 1) (set_zero (q := k + 1 + W + 1) (fun p hp => HRZ.out p (by omega)) (by omega)) (by omega) p hp
        have hg2 : ((rs.set (k + W) r1).set (k + W + 1) r2).getD (k + 1 + W) 0 = r2 := by
          rw [show k + 1 + W = k + W + 1 by omega]
          have : k + W + 1 < (rs.set (k + W) r1).length := by omega
          simp only [List.getD, List.getElem?_set_self this, Option.getD_some]
        have hv2 : valW ((rs.set (k + W) r1).set (k + W + 1) r2) = 2 ^ (32 * W) * (valW (xs.take (k + 1)) * 2 ^ S) := by
          have e1 := valW_set (rs.set (k + W) r1) (k + W + 1) r2 (by omega)
          rw [hz1, Nat.mul_zero, Nat.add_zero] at e1
          have e2 := valW_set rs (k + W) r1 (by have := HRL.out; omega)
          rw [← HOE.out, HRV.out] at e2
          exact left_step hr1 hr2 hU HXE.out (by have := HLA.out; omega) e1 e2
        have HST := Hid.mk hst2.1
        have HOK := Hid.mk hok2
        have HZ2 := Hid.mk hz2
        have HG2 := Hid.mk hg2
        have HV2 := Hid.mk hv2
        have HR2 := Hid.mk hr2b
        have HL1 := Hid.mk hl1
        clear hxE hoE hU hU1 hor1 hoU hr1 hr2 hr2b hst1 hst2 hok2 hz2 hg2 hv2 hown hbel hbel1 hl1 hz1
        go_wp2_with fail
        go_roundw
        case rel => exact ⟨k + 1, _, by omega, by go_num, by rw [List.length_set]; exact HL1.out, HOK.out, HZ2.out, by rw [HG2.out]; exact HR2.out, HV2.out, HST.out, hbel2⟩
        case measure => simp [intOf]; omega
    · have e : k = nA := by omega
      subst e
      have hW2 : IsW wr (.slice (some ⟨w.heap.size, 0, none⟩) (k + W + 1) (k + W + 1)) rs := isW_own hown HRL.out (by unfold maxLen; omega) HRO.out
      have HW2 := Hid.mk hW2
      clear hW2 hown
      go_wp2_with fail
      refine (trim_any _ rs wr HW2.out (by have := HRL.out; omega)).mono ?_
      rintro e w3 ⟨v', ys, rfl, hy, hv, ht, hl, hw3⟩
      subst hw3
      have HY := Hid.mk hy
      have HT := Hid.mk ht
      have hfin : valW ys = valW xs * 2 ^ n := by
        rw [hv, HRV.out, List.take_of_length_le (by have := HLA.out; omega), HN.out, Nat.pow_add, ← Nat.mul_assoc, Nat.mul_comm (2 ^ (32 * W)), Nat.mul_assoc]
      have HF := Hid.mk hfin
      have hll : ys.length ≤ k + W + 1 := by have := HRL.out; omega
      clear hy ht hv hfin hl
      go_wp2_with fail
      go_ret
      exact ⟨_, ys, rfl, HY.out, HF.out, HT.out, hll, hbel⟩

set_option maxHeartbeats 1000000 in
theorem left_nil (va : Value) (xs : List Nat) (n : Nat) (w : World) (ha : IsW w va xs) (h0 : xs.length = 0) :
    Calls Tryd.prog 54 #[va, .int .u64 n] w fun e w' => e = .returned (.slice none 0 0) ∧ w' = w := by
  obtain ⟨a, ca, rfl, hca, hma, hna, hcea, hoa⟩ := ha
  rw [h0]
  clear hca hma hna hcea hoa h0
  go_enter Tryd.func54, Tryd.ntmps54
  go_wp2_with fail
  go_ret
  exact ⟨rfl, rfl⟩

theorem left_any (va : Value) (xs : List Nat) (n : Nat) (w : World) (ha : IsW w va xs) (hla : xs.length ≤ 10000) (hn : n ≤ 30000) :
    Calls Tryd.prog 54 #[va, .int .u64 n] w fun e w' => ∃ v' rs, e = .returned v' ∧ IsW w' v' rs ∧ valW rs = valW xs * 2 ^ n ∧ trimW rs ∧ rs.length ≤ xs.length + n / 32 + 1 ∧ Below w.heap.size w w' := by
  by_cases h0 : xs.length = 0
  · refine (left_nil va xs n w ha h0).mono ?_
    rintro e w' ⟨rfl, rfl⟩
    have : xs = [] := List.eq_nil_of_length_eq_zero h0
    subst this
    exact ⟨_, [], rfl, isW_nil _, by simp [valW], .inl rfl, by simp, Below.refl _ _⟩
  · exact left_some va xs n (n / 32) (n % 32) w ha hla (by omega) (by omega) (by omega) (by omega)

/-- the number of bits of the highest word -/
theorem len_top {xs : List Nat} (hok : okW xs) (h0 : 0 < xs.length) {top j : Nat} (ht : top = xs.getD (xs.length - 1) 0) (hlt : top < 2 ^ j) (hge : j = 0 ∨ 2 ^ (j - 1) ≤ top) (hnz : top ≠ 0) :
    valW xs < 2 ^ ((xs.length - 1) * 32 + j) ∧ ((xs.length - 1) * 32 + j = 0 ∨ 2 ^ ((xs.length - 1) * 32 + j - 1) ≤ valW xs) := by
  have hk : xs.length - 1 < xs.length := by omega
  have e : xs = xs.take (xs.length - 1) ++ [top] := by
    rw [ht, ← take_snocN xs (xs.length - 1) hk, List.take_of_length_le (by omega)]
  have hlen : (xs.take (xs.length - 1)).length = xs.length - 1 := by rw [List.length_take]; omega
  have hv : valW xs = valW (xs.take (xs.length - 1)) + 2 ^ (32 * (xs.length - 1)) * top := by
    have := valW_snoc (xs.take (xs.length - 1)) top
    rw [← e, hlen] at this
    exact this
  have hl := valW_lt _ (okW_take hok (xs.length - 1))
  rw [hlen] at hl
  have hj : 1 ≤ j := by
    rcases hge with rfl | h
    · simp at hlt; omega
    · rcases Nat.lt_or_ge 0 j with h' | h'
      · exact h'
      · have : j = 0 := by omega
        subst this
        simp at hlt; omega
  have hge' : 2 ^ (j - 1) ≤ top := by rcases hge with h | h; omega; exact h
  generalize xs.length - 1 = m at *
  generalize valW (xs.take m) = A at *
  rw [hv]
  refine ⟨?_, .inr ?_⟩
  · have e1 : 2 ^ (m * 32 + j) = 2 ^ (32 * m) * 2 ^ j := by rw [Nat.pow_add, Nat.mul_comm m]
    have : 2 ^ (32 * m) * (top + 1) ≤ 2 ^ (32 * m) * 2 ^ j := Nat.mul_le_mul_left _ hlt
    rw [Nat.mul_add, Nat.mul_one] at this
    omega
  · have e1 : 2 ^ (m * 32 + j - 1) = 2 ^ (32 * m) * 2 ^ (j - 1) := by rw [← Nat.pow_add, Nat.mul_comm m]; congr 1; omega
    have : 2 ^ (32 * m) * 2 ^ (j - 1) ≤ 2 ^ (32 * m) * top := Nat.mul_le_mul_left _ hge'
    omega

set_option maxHeartbeats 4000000 in
theorem length_any (va : Value) (xs : List Nat) (w : World) (ha : IsW w va xs) (hla : xs.length ≤ 10000) (ht : trimW xs) :
    Calls Tryd.prog 59 #[va] w fun e w' => ∃ L : Nat, e = .returned (.int .i64 L) ∧ valW xs < 2 ^ L ∧ (L = 0 ∨ 2 ^ (L - 1) ≤ valW xs) ∧ L ≤ 32 * xs.length ∧ w' = w := by
  obtain ⟨a, ca, rfl, hca, hma, hna, hcea, hoa⟩ := ha
  by_cases h0 : xs.length = 0
  · have : xs = [] := List.eq_nil_of_length_eq_zero h0
    subst this
    clear hca hma hna hcea hoa h0 ht hla
    go_enter Tryd.func59, Tryd.ntmps59
    go_wp2_with fail
    go_ret
    exact ⟨0, rfl, by simp [valW], .inl rfl, by simp, rfl⟩
  · cases a with
    | none => exact absurd (hna rfl) h0
    | some p =>
      have hcx := hcea p rfl (xs.length - 1) (by omega)
      have htop := okW_getD hoa (xs.length - 1)
      obtain ⟨top, htE⟩ : ∃ top, top = xs.getD (xs.length - 1) 0 := ⟨_, rfl⟩
      rw [← htE] at hcx htop
      have hnz : top ≠ 0 := by
        rcases ht with rfl | h
        · simp at h0
        · rw [htE]; exact h
      obtain ⟨nA, hnA⟩ : ∃ n, n = xs.length := ⟨_, rfl⟩
      have HE := Hid.mk htE
      have HO := Hid.mk hoa
      have HNZ := Hid.mk hnz
      rw [← hnA] at hla h0 hcx ⊢
      have HLA := Hid.mk hnA
      have h1 : (1 : Int) ≤ (nA : Int) := by omega
      have g0 : ((nA : Int) == 0) = false := by simp; omega
      have hidx : ((nA : Int) - 1).toNat = nA - 1 := by omega
      have HTOP := Hid.mk htop
      clear hca hma hna hcea hoa h0 ht htE hnz hnA htop
      go_enter Tryd.func59, Tryd.ntmps59
      go_wp2_with fail
      go_loopw [3, 4] (fun c t wr => ∃ (j T : Nat), c = .int .i64 j ∧ t = .int .u32 T ∧ T = top / 2 ^ j ∧ j ≤ 32 ∧ (j = 0 ∨ 2 ^ (j - 1) ≤ top) ∧ wr = w) (fun _ t _ => (intOf t).toNat)
      case atStart => exact ⟨0, top, rfl, rfl, by simp, by omega, .inl rfl, rfl⟩
      case round =>
        obtain ⟨j, T, rfl, rfl, hT, hj, hge, rfl⟩ := hrel
        have HT := Hid.mk hT
        have HGE := Hid.mk hge
        clear hT hge
        by_cases hz : T = 0
        · subst hz
          have hlt : top < 2 ^ j := by
            have := HT.out
            rcases Nat.lt_or_ge top (2 ^ j) with h | h
            · exact h
            · have := Nat.div_pos h (Nat.two_pow_pos j); omega
          have hfin := len_top HO.out (by have := HLA.out; omega) HE.out hlt HGE.out HNZ.out
          rw [← HLA.out] at hfin
          have HF := Hid.mk hfin
          clear hlt hfin
          go_wp2_with fail
          go_ret
          exact ⟨(nA - 1) * 32 + j, congrArg (fun z : Int => Ending.returned (Value.int .i64 z)) (show ((nA : Int) - 1) * 32 + (j : Int) = (((nA - 1) * 32 + j : Nat) : Int) by omega), HF.out.1, HF.out.2, by omega, rfl⟩
        · have hz' : ((T : Int) != 0) = true := by simp; omega
          have hz2 : ((T : Int) == 0) = false := by simp; omega
          have hTb : T < 4294967296 := by
            have := HT.out
            have h2 : top / 2 ^ j ≤ top := Nat.div_le_self _ _
            have := HTOP.out
            omega
          have hTi : (T : Int) ≤ 4294967295 := by omega
          have hge2 : 2 ^ j ≤ top := by
            rcases Nat.lt_or_ge top (2 ^ j) with h | h
            · have := Nat.div_eq_of_lt h
              have := HT.out
              omega
            · exact h
          have hj2 : j + 1 ≤ 32 := by
            rcases Nat.lt_or_ge j 32 with h | h
            · exact h
            · have : 2 ^ 32 ≤ 2 ^ j := Nat.pow_le_pow_right (by omega) h
              have := HTOP.out
              omega
          have HGE2 := Hid.mk hge2
          have hT2 : T / 2 = top / 2 ^ (j + 1) := by rw [HT.out, Nat.pow_succ, Nat.div_div_eq_div_mul]
          have HT2 := Hid.mk hT2
          clear hge2 hT2 hTb
          go_wp2_with fail
          go_roundw
          case rel => exact ⟨j + 1, T / 2, by go_num, by go_num, HT2.out, hj2, .inr HGE2.out, by trivial⟩
          case measure => simp [intOf]; omega
end Ww
end Go.Proofs.YtopoogdoepdedaaDoor
