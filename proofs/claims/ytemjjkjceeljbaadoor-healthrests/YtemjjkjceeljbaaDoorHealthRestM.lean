/- What is off stays so through all but rest, and gets well by rest: plain facts; of no program. -/
import Derived.Test.YtemjjkjceeljbaaDoorHealthTillM
namespace Go.Proofs.YtemjjkjceeljbaaDoor
namespace Bw
theorem badK_all : ∀ l : List Int, (∀ x ∈ l, isW x = true) → badK l = l.length
  | [], _ => rfl
  | x :: l, h => by rw [badK, if_pos (h x List.mem_cons_self), badK_all l (fun y hy => h y (List.mem_cons_of_mem _ hy)), List.length_cons]
theorem all_of_badK (l : List Int) (h : ¬ badK l < l.length) : ∀ x ∈ l, isW x = true := by
  intro x hx
  obtain ⟨k, hk, rfl⟩ := List.getElem_of_mem hx
  have := badK_before l k (by omega)
  simpa [List.getD, hk] using this
theorem step_all (h : Hl) (l : List Int) (ho : okH h) (hl : l.length ≤ 1000) (hw : ∀ x ∈ l, isW x = true) : stepE h l = 0 ∧ stepO h l = runK h l l.length := by
  have hE : stepE h l = 0 := by
    unfold stepE
    rw [if_pos ((okB_iff h).2 ho), if_neg (by omega), if_neg (by rw [badK_all l hw]; omega)]
  refine ⟨hE, ?_⟩
  unfold stepO
  rw [hE, if_pos rfl]
theorem rep_getD (n k : Nat) (v : Int) (h : k < n) : (List.replicate n v).getD k 0 = v := by simp [List.getD, h]
theorem runK_rep3 (h : Hl) (n : Nat) : ∀ k, k ≤ n → runK h (List.replicate n 3) k = tk h k
  | 0, _ => rfl
  | k + 1, hk => by rw [runK, tk, runK_rep3 h n k (by omega), rep_getD n k 3 (by omega)]
theorem tk_off (h : Hl) (hs : h.s = 256) : ∀ k, tk h k = h
  | 0 => rfl
  | k + 1 => by rw [tk, tk_off h hs k]; unfold stepH; rw [if_pos hs, if_neg (by decide)]
/-- once off, so it stays -/
theorem tk_stays (h : Hl) (ho : okH h) (j : Nat) (hj : (j : Int) = tillH h) : ∀ k, tk h (j + k) = tk h j
  | 0 => rfl
  | k + 1 => by
    have hs := (state_off _).1 (till_at h ho j hj)
    rw [← Nat.add_assoc, tk, tk_stays h ho j hj k]
    unfold stepH
    rw [if_pos hs, if_neg (by decide)]
theorem tk32 (h : Hl) (ho : okH h) : (tk h 32).s = 256 := by
  obtain ⟨t0, t32, _⟩ := till_range h ho
  obtain ⟨j, hj⟩ : ∃ j : Nat, (j : Int) = tillH h := ⟨(tillH h).toNat, by omega⟩
  have e : tk h 32 = tk h j := by
    have := tk_stays h ho j hj (32 - j)
    rw [show j + (32 - j) = 32 by omega] at this
    exact this
  rw [e]
  exact (state_off _).1 (till_at h ho j hj)
theorem runK_quiet (y : Hl) (hs : y.s = 256) (l : List Int) (hl : ∀ x ∈ l, x ≠ 6) : ∀ k, k ≤ l.length → runK y l k = y
  | 0, _ => rfl
  | k + 1, hk => by
    have hlt : k < l.length := by omega
    have hx := hl l[k] (List.getElem_mem hlt)
    rw [runK, runK_quiet y hs l hl k (by omega), show l.getD k 0 = l[k] by simp [List.getD, hlt]]
    unfold stepH
    rw [if_pos hs, if_neg hx]
theorem runK_rest (y : Hl) (hs : y.s = 256) (n : Nat) (hn : y.r + n = 128) : ∀ k, k < n → runK y (List.replicate n 6) k = ⟨y.s, y.g, y.r + k⟩
  | 0, _ => by
    show y = _
    obtain ⟨s, g, r⟩ := y
    simp
  | k + 1, hk => by
    rw [runK, runK_rest y hs n hn k (by omega), rep_getD n k 6 (by omega)]
    unfold stepH
    simp only
    rw [if_pos hs, if_pos trivial, if_neg (by omega)]
    congr 1
    omega
theorem runK_well (y : Hl) (hs : y.s = 256) (n : Nat) (h0 : 0 < n) (hn : y.r + n = 128) : runK y (List.replicate n 6) n = zeroH := by
  obtain ⟨k, rfl⟩ : ∃ k, n = k + 1 := ⟨n - 1, by omega⟩
  rw [runK, runK_rest y hs (k + 1) hn k (by omega), rep_getD (k + 1) k 6 (by omega)]
  unfold stepH
  simp only
  rw [if_pos hs, if_pos trivial, if_pos (by omega)]
/-- all but rest -/
def quietL (l : List Int) : List Int := l.filter fun x => x != 6
end Bw
end Go.Proofs.YtemjjkjceeljbaaDoor
