/- What omnibusbig's mul answers: the words of the product. -/
import Derived.Test.YtopoogdoepdedaaDoorWordsCell
namespace Go.Proofs.YtopoogdoepdedaaDoor
open Go.ChangeShapes Go.WideShapes Go.ChangeAt Go.RowKit
namespace Ww
open Wm

theorem valW_set (rs : List Nat) : ∀ (p v : Nat), p < rs.length → valW (rs.set p v) + 2 ^ (32 * p) * rs.getD p 0 = valW rs + 2 ^ (32 * p) * v := by
  induction rs with
  | nil => intro p v h; simp at h
  | cons x rs ih =>
    intro p v h
    cases p with
    | zero => simp [valW]; omega
    | succ p =>
      have := ih p v (by simpa using h)
      rw [List.set_cons_succ, valW, valW, pow32]
      have e : (x :: rs).getD (p + 1) 0 = rs.getD p 0 := by simp [List.getD]
      rw [e, Nat.mul_comm (2 ^ (32 * p)) 4294967296, Nat.mul_assoc, Nat.mul_assoc]
      have h2 : 4294967296 * (valW (rs.set p v) + 2 ^ (32 * p) * rs.getD p 0) = 4294967296 * (valW rs + 2 ^ (32 * p) * v) := by rw [this]
      rw [Nat.mul_add, Nat.mul_add] at h2
      omega
theorem okW_set {rs : List Nat} (h : okW rs) (p v : Nat) (hv : v < 4294967296) : okW (rs.set p v) := by
  intro x hx
  rcases List.mem_or_eq_of_mem_set hx with h1 | h1
  · exact h x h1
  · omega
theorem cellsW_setAt (rs : List Nat) (p v : Nat) : (cellsW rs).set p (.int .u32 (v : Int)) = cellsW (rs.set p v) := by
  unfold cellsW; rw [List.map_set]
theorem cellsW_get (rs : List Nat) (p : Nat) (h : p < rs.length) : (cellsW rs)[p]? = some (.int .u32 (rs.getD p 0)) := by
  unfold cellsW; simp [List.getD, h]
theorem set_zero {rs : List Nat} {k q v : Nat} (hz : ∀ p, q ≤ p → rs.getD p 0 = 0) (hk : k < q) : ∀ p, q ≤ p → (rs.set k v).getD p 0 = 0 := by
  intro p hp
  have := hz p hp
  simp only [List.getD, List.getElem?_set] at this ⊢
  rw [if_neg (by omega)]; exact this
theorem valW_zeros (n : Nat) : valW (List.replicate n 0) = 0 := by
  induction n with
  | zero => rfl
  | succ n ih => rw [List.replicate_succ, valW, ih]
theorem mul_step {rs ys : List Nat} {k j cc xk yk A : Nat} (hv : valW rs + 2 ^ (32 * (k + j)) * cc = A + 2 ^ (32 * k) * (xk * valW (ys.take j))) (hy : yk = ys.getD j 0) (hj : j < ys.length) (hp : k + j < rs.length) :
    valW (rs.set (k + j) ((cc + (xk * yk + rs.getD (k + j) 0)) % 4294967296)) + 2 ^ (32 * (k + (j + 1))) * ((cc + (xk * yk + rs.getD (k + j) 0)) / 4294967296) = A + 2 ^ (32 * k) * (xk * valW (ys.take (j + 1))) := by
  have h1 := valW_set rs (k + j) ((cc + (xk * yk + rs.getD (k + j) 0)) % 4294967296) hp
  have e1 : 2 ^ (32 * (k + (j + 1))) = 2 ^ (32 * (k + j)) * 4294967296 := by rw [← Nat.add_assoc, pow32]
  have e2 : 2 ^ (32 * k) * (xk * valW (ys.take (j + 1))) = 2 ^ (32 * k) * (xk * valW (ys.take j)) + 2 ^ (32 * (k + j)) * (xk * yk) := by
    rw [take_snocN ys j hj, valW_snoc, List.length_take, Nat.min_eq_left (by omega), ← hy, Nat.mul_add, Nat.mul_add, Nat.mul_left_comm xk (2 ^ (32 * j)) yk, ← Nat.mul_assoc (2 ^ (32 * k)) (2 ^ (32 * j)), ← Nat.pow_add, ← Nat.mul_add 32]
  rw [e1, e2]
  generalize rs.getD (k + j) 0 = o at *
  generalize valW (rs.set (k + j) ((cc + (xk * yk + o)) % 4294967296)) = S at *
  generalize 2 ^ (32 * (k + j)) = P at *
  generalize 2 ^ (32 * k) * (xk * valW (ys.take j)) = Q at *
  have h2 := carry_step (valW rs) P (cc + (xk * yk + o))
  have e3 : P * (cc + (xk * yk + o)) = P * cc + P * (xk * yk) + P * o := by
    rw [Nat.mul_add, Nat.mul_add, Nat.add_assoc]
  rw [e3] at h2
  generalize P * 4294967296 * ((cc + (xk * yk + o)) / 4294967296) = R1 at *
  generalize P * ((cc + (xk * yk + o)) % 4294967296) = R2 at *
  generalize P * (xk * yk) = R3 at *
  generalize P * cc = R4 at *
  generalize P * o = R5 at *
  omega
theorem mul_end {rs xs ys : List Nat} {k q cc xk : Nat} (hv : valW rs + 2 ^ (32 * (k + q)) * cc = valW (xs.take k) * valW ys + 2 ^ (32 * k) * (xk * valW (ys.take q))) (hq : q = ys.length) (hx : xk = xs.getD k 0) (hk : k < xs.length) (hp : k + q < rs.length) (hz : rs.getD (k + q) 0 = 0) :
    valW (rs.set (k + q) cc) = valW (xs.take (k + 1)) * valW ys := by
  have h1 := valW_set rs (k + q) cc hp
  rw [hz, Nat.mul_zero, Nat.add_zero] at h1
  have e : ys.take q = ys := List.take_of_length_le (by omega)
  rw [h1, hv, e, take_snocN xs k hk, valW_snoc, List.length_take, Nat.min_eq_left (by omega), ← hx, Nat.add_mul, Nat.mul_assoc]

set_option maxHeartbeats 1000000 in
theorem mul_nil (va vb : Value) (xs ys : List Nat) (w : World) (ha : IsW w va xs) (hb : IsW w vb ys) (h : xs.length = 0 ∨ ys.length = 0) (hl : ys.length ≤ 10000) :
    Calls Tryd.prog 51 #[va, vb] w fun e w' => e = .returned (.slice none 0 0) ∧ w' = w := by
  obtain ⟨a, ca, rfl, -, -, -, -, -⟩ := ha
  obtain ⟨b, cb, rfl, -, -, -, -, -⟩ := hb
  generalize xs.length = n at *
  generalize ys.length = m at *
  by_cases h0 : n = 0
  · subst h0
    go_enter Tryd.func51, Tryd.ntmps51
    go_wp2_with fail
    go_ret
    exact ⟨rfl, rfl⟩
  · have hm : m = 0 := by omega
    subst hm
    have h0' : ((n : Int) == 0) = false := by simp; omega
    clear h
    go_enter Tryd.func51, Tryd.ntmps51
    go_wp2_with fail
    go_ret
    exact ⟨rfl, rfl⟩

set_option maxHeartbeats 8000000 in
theorem mul_pos (va vb : Value) (xs ys : List Nat) (w : World) (ha : IsW w va xs) (hb : IsW w vb ys) (hla : xs.length ≤ 10000) (hlb : ys.length ≤ 10000) (h0 : 0 < xs.length) (h1 : 0 < ys.length) :
    Calls Tryd.prog 51 #[va, vb] w fun e w' => ∃ v' rs, e = .returned v' ∧ IsW w' v' rs ∧ valW rs = valW xs * valW ys ∧ trimW rs ∧ rs.length ≤ xs.length + ys.length ∧ Below w.heap.size w w' := by
  obtain ⟨a, ca, rfl, hca, hma, hna, hcea, hoa⟩ := ha
  obtain ⟨b, cb, rfl, hcb, hmb, hnb, hceb, hob⟩ := hb
  have HCA := Hid.mk hcea
  have HCB := Hid.mk hceb
  have HNA := Hid.mk hna
  have HNB := Hid.mk hnb
  have HOA := Hid.mk hoa
  have HOB := Hid.mk hob
  obtain ⟨nA, hnA⟩ : ∃ n, n = xs.length := ⟨_, rfl⟩
  obtain ⟨nB, hnB⟩ : ∃ n, n = ys.length := ⟨_, rfl⟩
  rw [← hnA] at hla h0 ⊢
  rw [← hnB] at hlb h1 ⊢
  have HLA := Hid.mk hnA
  have HLB := Hid.mk hnB
  have g0 : ((nA : Int) == 0) = false := by simp; omega
  have g1 : ((nB : Int) == 0) = false := by simp; omega
  obtain ⟨i0, hi, hz0, hz1, hz2⟩ := info_parts info_u32
  clear hcea hceb hna hnb hoa hob hnA hnB hca hcb hma hmb
  go_enter Tryd.func51, Tryd.ntmps51
  go_wp2_with (at_make; refine wpList_make_full _ rfl (.tmp 21) (.tmp 21) 56 rfl w.heap.size 99 i0 (.int .u32 0) 1 Tryd.underlying56 hi hz0 hz1 .i64 .i64 _ _ (nA + nB) rfl rfl (by omega) (by omega) (by rw [hz2]; omega) (by unfold maxLen; omega) (Nat.le_refl _) ?_; intro w2 hown hgrow)
  have hown0 : w2.ownsRow w.heap.size 99 1 (.slice (some ⟨w.heap.size, 0, none⟩) (nA + nB) (nA + nB)) (nA + nB) (cellsW (List.replicate (nA + nB) 0)) := by
    have := cellsW_rep (nA + nB)
    rw [List.nil_append, Nat.sub_zero] at this
    rw [this, ← toList_madeCells_one]
    rw [Nat.mul_one] at hown
    exact hown
  have hb2 : Below w.heap.size w w2 := Below.grown (Below.refl _ _) hgrow (Nat.le_refl _) (fun q hq => by cases hq)
  clear hown hgrow hi hz0 hz1 hz2 g0 g1
  go_wp2_with fail
  go_loopw [6] (fun i wr => ∃ (k : Nat) (rs : List Nat), k ≤ nA ∧ i = .int .i64 k ∧ rs.length = nA + nB ∧ okW rs ∧ (∀ p, k + nB ≤ p → rs.getD p 0 = 0) ∧ valW rs = valW (xs.take k) * valW ys ∧
      wr.ownsRow w.heap.size 99 1 (.slice (some ⟨w.heap.size, 0, none⟩) (nA + nB) (nA + nB)) (nA + nB) (cellsW rs) ∧ Below w.heap.size w wr) (fun i _ => nA - (intOf i).toNat)
  case atStart => exact ⟨0, List.replicate (nA + nB) 0, Nat.zero_le _, rfl, by simp, (fun x hx => by rw [List.eq_of_mem_replicate hx]; omega), (fun p _ => by simp [List.getD, List.getElem?_replicate]; split <;> rfl), by rw [valW_zeros]; simp [valW], hown0, hb2⟩
  case round =>
    clear hown0 hb2
    obtain ⟨k, rs, hk, rfl, hrl, hro, hrz, hrv, hown, hbel⟩ := hrel
    have HRL := Hid.mk hrl
    have HRO := Hid.mk hro
    have HRZ := Hid.mk hrz
    have HRV := Hid.mk hrv
    clear hrl hro hrz hrv
    by_cases hlt : k < nA
    · cases a with
      | none => exact absurd (HNA.out rfl) (by have := HLA.out; omega)
      | some p =>
        cases b with
        | none => exact absurd (HNB.out rfl) (by have := HLB.out; omega)
        | some q =>
          have hxk := okW_getD HOA.out k
          obtain ⟨xk, hxE⟩ : ∃ xk, xk = xs.getD k 0 := ⟨_, rfl⟩
          rw [← hxE] at hxk
          have HXE := Hid.mk hxE
          have hlt' : (k : Int) < (nA : Int) := by omega
          clear hxE
          go_wp2_with fail
          go_loopw [7, 8] (fun c j wq => ∃ (jj cc : Nat) (rq : List Nat), jj ≤ nB ∧ j = .int .i64 jj ∧ c = .int .u64 cc ∧ cc < 4294967296 ∧ rq.length = nA + nB ∧ okW rq ∧ (∀ p, k + nB ≤ p → rq.getD p 0 = 0) ∧
              valW rq + 2 ^ (32 * (k + jj)) * cc = valW (xs.take k) * valW ys + 2 ^ (32 * k) * (xk * valW (ys.take jj)) ∧
              wq.ownsRow w.heap.size 99 1 (.slice (some ⟨w.heap.size, 0, none⟩) (nA + nB) (nA + nB)) (nA + nB) (cellsW rq) ∧ Below w.heap.size w wq) (fun _ j _ => nB - (intOf j).toNat)
          case atStart => exact ⟨0, 0, rs, Nat.zero_le _, rfl, rfl, by omega, HRL.out, HRO.out, HRZ.out, by rw [HRV.out]; simp [valW], hown, hbel⟩
          case round =>
            clear hown hbel HRL HRO HRZ HRV
            obtain ⟨j, cc, rq, hj, rfl, rfl, hcc, hrl, hro, hrz, hrv, hown, hbel⟩ := hrel
            have HRL := Hid.mk hrl
            have HRO := Hid.mk hro
            have HRZ := Hid.mk hrz
            have HRV := Hid.mk hrv
            clear hrl hro hrz hrv
            by_cases hjl : j < nB
            · have hcx := Bw.cell_kept hbel (HCA.out p rfl k (by have := HLA.out; omega))
              have hcy := Bw.cell_kept hbel (HCB.out q rfl j (by have := HLB.out; omega))
              rw [← HXE.out] at hcx
              have hyk := okW_getD HOB.out j
              obtain ⟨yk, hyE⟩ : ∃ yk, yk = ys.getD j 0 := ⟨_, rfl⟩
              rw [← hyE] at hcy hyk
              have HYE := Hid.mk hyE
              have hc3 := hown.cellAt (k + j) (by omega)
              have hf3 := hown.frozenAt (k + j)
              rw [cellsW_get rq (k + j) (by have := HRL.out; omega)] at hc3
              have hok := okW_getD HRO.out (k + j)
              obtain ⟨o, hoE⟩ : ∃ o, o = rq.getD (k + j) 0 := ⟨_, rfl⟩
              rw [← hoE] at hc3 hok
              have HOE := Hid.mk hoE
              have hpr : xk * yk ≤ 18446744065119617025 := Nat.le_trans (Nat.mul_le_mul (show xk ≤ 4294967295 by omega) (show yk ≤ 4294967295 by omega)) (by omega)
              have hpr' : (xk : Int) * (yk : Int) ≤ 18446744065119617025 := by rw [← Int.natCast_mul]; omega
              have hpr0 : 0 ≤ (xk : Int) * (yk : Int) := Int.mul_nonneg (by omega) (by omega)
              have hcc' : (cc : Int) ≤ 4294967295 := by omega
              have ho' : (o : Int) ≤ 4294967295 := by omega
              have hx' : (xk : Int) ≤ 4294967295 := by omega
              have hy' : (yk : Int) ≤ 4294967295 := by omega
              have hjl' : (j : Int) < (nB : Int) := by omega
              have hst := hown.stored (k + j) (.int .u32 (((cc : Int) + ((xk : Int) * yk + o)) % 4294967296))
              have ecast : ((cc : Int) + ((xk : Int) * yk + o)) % 4294967296 = (((cc + (xk * yk + o)) % 4294967296 : Nat) : Int) := by rw [← Int.natCast_mul]; omega
              have ecast2 : ((cc : Int) + ((xk : Int) * yk + o)) / 4294967296 = (((cc + (xk * yk + o)) / 4294967296 : Nat) : Int) := by rw [← Int.natCast_mul]; omega
              rw [ecast, cellsW_setAt, ← ecast] at hst
              have hb4 := hbel.grown hst.2 hbel.size (fun q hq => by cases hq; exact Nat.le_refl _)
              have HST := Hid.mk hst.1
              have HB4 := Hid.mk hb4
              have HE2 := Hid.mk ecast2
              have hcn : (cc + (xk * yk + o)) / 4294967296 < 4294967296 := by omega
              have hmv := mul_step HRV.out HYE.out (by have := HLB.out; omega) (by have := HRL.out; omega)
              rw [← HOE.out] at hmv
              have HMV := Hid.mk hmv
              have HCN := Hid.mk hcn
              clear hyE hoE hst ecast ecast2 hb4 hcn hmv hown hpr
              go_wp2_with fail
              go_quiet (fail)
              go_wp2_with fail
              go_roundw
              case rel => exact ⟨j + 1, (cc + (xk * yk + o)) / 4294967296, rq.set (k + j) ((cc + (xk * yk + o)) % 4294967296), by omega, by go_num, (by rw [← HE2.out]), HCN.out, (by rw [List.length_set]; exact HRL.out), okW_set HRO.out _ _ (by omega), set_zero HRZ.out (by omega), HMV.out, HST.out, HB4.out.trans ⟨rfl, rfl, rfl, Nat.le_refl _, fun _ _ => rfl⟩⟩
              case measure => simp [intOf]; omega
            · have e : j = nB := by omega
              subst e
              have hc3 := hown.cellAt (k + j) (by omega)
              have hf3 := hown.frozenAt (k + j)
              rw [cellsW_get rq (k + j) (by have := HRL.out; omega), HRZ.out (k + j) (Nat.le_refl _)] at hc3
              have hst := hown.stored (k + j) (.int .u32 (cc : Int))
              rw [cellsW_setAt] at hst
              have hcc' : (cc : Int) ≤ 4294967295 := by omega
              have hb4 := hbel.grown hst.2 hbel.size (fun q hq => by cases hq; exact Nat.le_refl _)
              have HST := Hid.mk hst.1
              have HB4 := Hid.mk hb4
              have hme := mul_end HRV.out HLB.out HXE.out (by have := HLA.out; omega) (by have := HRL.out; omega) (HRZ.out (k + j) (Nat.le_refl _))
              have HME := Hid.mk hme
              clear hst hb4 hown hme
              go_wp2_with fail
              go_roundw
              case rel => exact ⟨k + 1, rq.set (k + j) cc, by omega, by go_num, (by rw [List.length_set]; exact HRL.out), okW_set HRO.out _ _ (by omega), set_zero (fun p hp => HRZ.out p (by omega)) (by omega), HME.out, HST.out, HB4.out⟩
              case measure => simp [intOf]; omega
    · have e : k = nA := by omega
      subst e
      have hfull : xs.take k = xs := List.take_of_length_le (by have := HLA.out; omega)
      have hrv := HRV.out
      rw [hfull] at hrv
      have HV := Hid.mk hrv
      have hW := isW_own hown HRL.out (by unfold maxLen; omega) HRO.out
      have HW := Hid.mk hW
      clear hrv hfull hW hown
      go_wp2_with fail
      refine (trim_any _ rs _ HW.out (by have := HRL.out; omega)).mono ?_
      rintro e w3 ⟨v', qs, rfl, hr1, hr2, hr3, hr4, rfl⟩
      have hr5 : valW qs = valW xs * valW ys := by rw [hr2]; exact HV.out
      have HR5 := Hid.mk hr5
      have hr6 : qs.length ≤ k + nB := by have := HRL.out; omega
      clear hr2 hr5 hr4
      go_wp2_with fail
      go_ret
      exact ⟨_, qs, rfl, hr1, HR5.out, hr3, hr6, hbel⟩

theorem mul_any (va vb : Value) (xs ys : List Nat) (w : World) (ha : IsW w va xs) (hb : IsW w vb ys) (hla : xs.length ≤ 10000) (hlb : ys.length ≤ 10000) :
    Calls Tryd.prog 51 #[va, vb] w fun e w' => ∃ v' rs, e = .returned v' ∧ IsW w' v' rs ∧ valW rs = valW xs * valW ys ∧ trimW rs ∧ rs.length ≤ xs.length + ys.length ∧ Below w.heap.size w w' := by
  by_cases h : xs.length = 0 ∨ ys.length = 0
  · refine (mul_nil va vb xs ys w ha hb h hlb).mono fun e w' ⟨he, hw⟩ => ⟨_, [], he, isW_nil _, ?_, Or.inl rfl, Nat.zero_le _, hw ▸ Below.refl _ _⟩
    rcases h with h | h
    · rw [List.eq_nil_of_length_eq_zero h]; simp [valW]
    · rw [List.eq_nil_of_length_eq_zero h]; simp [valW]
  · exact mul_pos va vb xs ys w ha hb hla hlb (by omega) (by omega)
end Ww
end Go.Proofs.YtopoogdoepdedaaDoor
