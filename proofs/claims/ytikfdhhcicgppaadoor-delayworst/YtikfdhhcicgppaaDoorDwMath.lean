/- The law DelayWorst: its own reckoning on plain numbers. -/
import Derived.Test.YtikfdhhcicgppaaDoorDlWorst
import Derived.Test.YtikfdhhcicgppaaDoorDlLoad
namespace Go.Proofs.YtikfdhhcicgppaaDoor
namespace Bw
/-- a search from within: one step more, or it is found -/
theorem lfp_step {f : Nat → Nat} (hm : Mono f) {t0 Y t : Nat} (hY : Lfp f t0 Y) (h0 : t0 ≤ t) (h1 : t ≤ Y) (h2 : t ≤ f t) : (f t = t → t = Y) ∧ (¬ f t = t → t < f t ∧ f t ≤ Y ∧ f t ≤ f (f t)) := by
  refine ⟨fun e => Nat.le_antisymm h1 (hY.2.2 t h0 (Nat.le_of_eq e)), fun e => ⟨by omega, ?_, hm _ _ h2⟩⟩
  have h3 := hm _ _ h1
  rw [hY.2.1] at h3
  exact h3
theorem wnext {b : Nat} {x : Tk} {l : List Tk} {q wp Y : Nat} (hp : Lfp (gF b x l q) (b + q * cN x) wp) (hY : Lfp (gF b x l (q + 1)) (b + (q + 1) * cN x) Y) :
    max wp (b + (q + 1) * cN x) ≤ Y ∧ max wp (b + (q + 1) * cN x) ≤ gF b x l (q + 1) (max wp (b + (q + 1) * cN x)) := by
  have e : ∀ w, gF b x l (q + 1) w = gF b x l q w + cN x := fun w => by unfold gF; rw [Nat.add_mul, Nat.one_mul]; omega
  have e2 : (q + 1) * cN x = q * cN x + cN x := by rw [Nat.add_mul, Nat.one_mul]
  have h1 : wp ≤ Y := hp.2.2 Y (by have := hY.1; omega) (by have := hY.2.1; rw [e] at this; omega)
  have h2 := gF_mono b x l (q + 1) wp (max wp (b + (q + 1) * cN x)) (Nat.le_max_left _ _)
  have h3 := gF_from b x l (q + 1) (max wp (b + (q + 1) * cN x))
  rw [e wp, hp.2.1] at h2
  have := hY.1
  omega
theorem wkN_next {x : Tk} (h : 1 ≤ tN x) (w : Nat) : wkN x (w + 1) = ((w + jN x) / tN x + 1) * cN x := by
  unfold wkN
  rw [show w + 1 + jN x = w + jN x + 1 by omega, upN_succ h, Nat.mul_comm]
theorem bF_take {l : List Tk} {k b t : Nat} {x : Tk} (hx : x = l.getD k noT) (hk : k < l.length) : b + sumN (l.take (k + 1)) t = bF b x (l.take k) t := by
  rw [take_snocT hk, sumN_snoc, ← hx]
  unfold bF
  omega
theorem stop_none {l : List Tk} {k b : Nat} {x : Tk} (hx : x = l.getD k noT) (hb : b = mostT (l.drop (k + 1))) (h : setF (bF b x (l.take k)) (b + cN x) = none) : stopAt l k = -1 := by
  unfold stopAt waitN
  rw [← hx, ← hb, h]
theorem stop_some {l : List Tk} {k b y : Nat} {x : Tk} (hx : x = l.getD k noT) (hb : b = mostT (l.drop (k + 1))) (hok : okT x = true) (h : setF (bF b x (l.take k)) (b + cN x) = some y) : stopAt l k = wtK b x (l.take k) (-1) (upN (y + jN x) (tN x)) := by
  unfold stopAt waitN
  rw [← hx, ← hb, h]
  obtain ⟨q1, q2, q3, q4, q5, -⟩ := okT_n hok
  obtain ⟨⟨h1, -⟩, -⟩ := setF_some (bF_mono b x (l.take k)) (bF_from hok b (l.take k)) h
  have hu := upN_one (n := y + jN x) (d := tN x) (by omega) q3
  obtain ⟨m, hm⟩ : ∃ m, upN (y + jN x) (tN x) = m + 1 := ⟨upN (y + jN x) (tN x) - 1, by omega⟩
  simp only
  rw [hm]
  exact (wtK_start b (l.take k) hok m).symm
theorem wtK_le3 {b : Nat} {x : Tk} {l : List Tk} {busy : Nat} (hx : okT x = true) (h : bF b x l busy = busy) (hb : busy ≤ 200000) : ∀ q, q ≤ upN (busy + jN x) (tN x) → wtK b x l (-1) q ≤ 1300000
  | 0, _ => by unfold wtK; omega
  | q + 1, hq => by
    have h1 := wtK_le3 hx h hb q (by omega)
    obtain ⟨-, h2, -, -⟩ := round_facts (q := q) hx h hb (by omega)
    obtain ⟨q1, q2, q3, q4, q5, -⟩ := okT_n hx
    unfold wtK tQ
    have h3 : 0 ≤ (q : Int) * (tN x : Int) := by rw [← Int.natCast_mul]; omega
    omega
theorem wQ_lfp {b : Nat} {x : Tk} {l : List Tk} {busy q : Nat} (hx : okT x = true) (h : bF b x l busy = busy) (hb : busy ≤ 200000) (hq : q < upN (busy + jN x) (tN x)) : Lfp (gF b x l q) (b + q * cN x) (wQ b x l q) := by
  obtain ⟨y, hy, hl, -⟩ := begin_is hx h hb hq
  unfold wQ
  rw [hy]
  exact hl
/-- where the search for q begins -/
def w0 (b : Nat) (x : Tk) (l : List Tk) : Nat → Nat
  | 0 => b
  | q + 1 => wQ b x l q
theorem w0_facts {b : Nat} {x : Tk} {l : List Tk} {busy q : Nat} (hx : okT x = true) (h : bF b x l busy = busy) (hb : busy ≤ 200000) (hq : q < upN (busy + jN x) (tN x)) :
    b + q * cN x ≤ max (w0 b x l q) (b + q * cN x) ∧ max (w0 b x l q) (b + q * cN x) ≤ wQ b x l q ∧ max (w0 b x l q) (b + q * cN x) ≤ gF b x l q (max (w0 b x l q) (b + q * cN x)) := by
  refine ⟨Nat.le_max_right _ _, ?_⟩
  have hY := wQ_lfp hx h hb hq
  cases q with
  | zero =>
    have e : max (w0 b x l 0) (b + 0 * cN x) = b := by unfold w0; rw [Nat.zero_mul]; simp
    rw [e]
    have h1 := hY.1
    have h2 := gF_from b x l 0 b
    rw [Nat.zero_mul] at h1 h2
    exact ⟨h1, h2⟩
  | succ q => exact wnext (wQ_lfp hx h hb (by omega)) hY
end Bw
end Go.Proofs.YtikfdhhcicgppaaDoor
