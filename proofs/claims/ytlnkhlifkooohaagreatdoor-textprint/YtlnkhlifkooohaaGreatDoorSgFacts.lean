/- What is written is read, and what Write and Over answer in one sentence each; plain facts on right signals. -/
import Derived.Test.YtlnkhlifkooohaaGreatDoorSgWrite
import Derived.Test.YtlnkhlifkooohaaGreatDoorSgOver
namespace Go.Proofs.YtlnkhlifkooohaaGreatDoor
open Go.ChangeShapes Go.WideShapes Go.ChangeAt Go.RowKit Go.Sort
namespace Bw
open Sm
theorem rawE_parts {s : Sig} {sz : Nat} {num den : Int} (h : rawE s sz num den = 0) : fracB num den = true ∧ rawV s num den * partI s den = wholeI s num den ∧ lowS s.sg sz ≤ rawV s num den ∧ rawV s num den ≤ highS s.sg sz := by
  unfold rawE at h
  split at h
  · omega
  · rename_i h1
    split at h
    · omega
    · rename_i h2
      split at h
      · omega
      · rename_i h3
        simp only [Bool.not_eq_false] at h1 h3
        have h2' : (wholeI s num den).tmod (partI s den) = 0 := by
          rcases Decidable.em ((wholeI s num den).tmod (partI s den) = 0) with h | h
          · exact h
          · exact absurd h h2
        refine ⟨h1, ?_, inB_iff.1 h3⟩
        have e := Int.tmod_add_mul_tdiv (wholeI s num den) (partI s den)
        rw [h2', Int.zero_add] at e
        unfold rawV
        rw [Int.mul_comm]
        exact e
/-- what the raw number means is the fraction -/
theorem mean_frac {s : Sig} {sz : Nat} {num den : Int} (h : rawE s sz num den = 0) : meanN s (rawV s num den) * den = num * s.di := by
  have e := (rawE_parts h).2.1
  unfold partI wholeI at e
  unfold meanN
  generalize rawV s num den = r at *
  have e1 : (r * s.mu + s.ad * s.di) * den = r * (den * s.mu) + s.ad * den * s.di := by
    rw [Int.add_mul, Int.mul_assoc r, Int.mul_comm s.mu, Int.mul_assoc s.ad, Int.mul_comm s.di, ← Int.mul_assoc s.ad]
  rw [e1, e, Int.sub_mul]
  omega
theorem mean_low {s : Sig} {st sz n : Nat} {num den : Int} (hR : Rt s st sz n) (h : rawE s sz num den = 0) : numL (meanN s (rawV s num den)) s.di = numL num den ∧ denL (meanN s (rawV s num den)) s.di = denL num den := by
  have hf := (rawE_parts h).1
  unfold fracB at hf
  simp only [Bool.and_eq_true, inB_iff] at hf
  exact low_eq (by have := hR.di1; omega) (by omega) (mean_frac h)
theorem low_one (n : Int) : numL n 1 = n ∧ denL n 1 = 1 := low_of_cop (by simp)
/-- the bits that were put in -/
theorem wrS_at {s : Sig} {st sz n : Nat} (hR : Rt s st sz n) {l : List UInt8} (hl : l.length = n) (r : Int) {i : Nat} (hi : i < sz) : bitN (wrS s st sz l r) (plN s.bk st sz i) = bitI r i :=
  wrK_at (fun i hi => by rw [hl]; exact hR.pl_lt hi) (fun i _ => bitI_lt r i) (fun i j hi hj h => plN_inj hi hj h) i hi
theorem wrS_other {s : Sig} {st sz n : Nat} (hR : Rt s st sz n) {l : List UInt8} (hl : l.length = n) (r : Int) {q : Nat} (hq : ∀ i, i < sz → plN s.bk st sz i ≠ q) : bitN (wrS s st sz l r) q = bitN l q :=
  wrK_other (fun i hi => by rw [hl]; exact hR.pl_lt hi) (fun i _ => bitI_lt r i) hq
/-- bits that tell r are read as r -/
theorem raw_of_bits {s : Sig} {st sz n : Nat} (hR : Rt s st sz n) {l : List UInt8} {r : Int} (hb : ∀ i, i < sz → bitN l (plN s.bk st sz i) = bitI r i) (h1 : lowS s.sg sz ≤ r) (h2 : r ≤ highS s.sg sz) : rawR s st sz l = r := by
  have hp : (0 : Int) < 2 ^ sz := Int.pow_pos (by omega)
  have e : (uN s.bk st sz l : Int) = r % 2 ^ sz := by
    unfold uN
    rw [sumK_congr hb, sumK_int]
    exact Int.toNat_of_nonneg (Int.emod_nonneg _ (Int.ne_of_gt hp))
  unfold rawR
  rw [e]
  exact rawS_mod hR.s1 h1 h2
/-- what is written is read -/
theorem raw_wr {s : Sig} {st sz n : Nat} (hR : Rt s st sz n) {l : List UInt8} (hl : l.length = n) {num den : Int} (h : rawE s sz num den = 0) : rawR s st sz (wrS s st sz l (rawV s num den)) = rawV s num den :=
  raw_of_bits hR (fun _ hi => wrS_at hR hl _ hi) (rawE_parts h).2.2.1 (rawE_parts h).2.2.2
/-- what is read is written as it stood -/
theorem wr_raw {s : Sig} {st sz n : Nat} (hR : Rt s st sz n) {l : List UInt8} (hl : l.length = n) : wrS s st sz l (rawR s st sz l) = l := by
  apply bits_ext
  · exact wrS_length _ _ _ _ _
  · intro q _
    by_cases h : ∃ i, i < sz ∧ plN s.bk st sz i = q
    · obtain ⟨i, hi, rfl⟩ := h
      rw [wrS_at hR hl _ hi]
      unfold rawR
      rw [rawS_bit s.sg (uN s.bk st sz l) hi]
      unfold uN
      exact sumK_bit (fun _ _ => bitN_lt _ _) i hi
    · exact wrS_other hR hl _ (fun i hi e => h ⟨i, hi, e⟩)
/-- two that lie apart: in either order -/
theorem wr_comm {s t : Sig} {st sz st' sz' n : Nat} (hR : Rt s st sz n) (hR' : Rt t st' sz' n) {l : List UInt8} (hl : l.length = n) (ho : ∀ j, j < sz' → ∀ i, i < sz → plN s.bk st sz i ≠ plN t.bk st' sz' j) (r r' : Int) :
    wrS t st' sz' (wrS s st sz l r) r' = wrS s st sz (wrS t st' sz' l r') r := by
  have hl1 : (wrS s st sz l r).length = n := by rw [wrS_length]; exact hl
  have hl2 : (wrS t st' sz' l r').length = n := by rw [wrS_length]; exact hl
  apply bits_ext
  · rw [wrS_length, wrS_length, wrS_length, wrS_length]
  · intro q _
    by_cases h : ∃ i, i < sz ∧ plN s.bk st sz i = q
    · obtain ⟨i, hi, rfl⟩ := h
      rw [wrS_at hR hl2 _ hi, wrS_other hR' hl1 _ (fun j hj e => ho j hj i hi e.symm), wrS_at hR hl _ hi]
    · have h' : ∀ i, i < sz → plN s.bk st sz i ≠ q := fun i hi e => h ⟨i, hi, e⟩
      rw [wrS_other hR hl2 _ h']
      by_cases h2 : ∃ j, j < sz' ∧ plN t.bk st' sz' j = q
      · obtain ⟨j, hj, rfl⟩ := h2
        rw [wrS_at hR' hl1 _ hj, wrS_at hR' hl _ hj]
      · have h2' : ∀ i, i < sz' → plN t.bk st' sz' i ≠ q := fun i hi e => h2 ⟨i, hi, e⟩
        rw [wrS_other hR' hl1 _ h2', wrS_other hR' hl _ h2', wrS_other hR hl _ h']
theorem raw_apart {s t : Sig} {st sz st' sz' n : Nat} (hR : Rt s st sz n) (hR' : Rt t st' sz' n) {l : List UInt8} (hl : l.length = n) (ho : ∀ j, j < sz' → ∀ i, i < sz → plN s.bk st sz i ≠ plN t.bk st' sz' j) {num den : Int} (h : rawE s sz num den = 0) (r' : Int) :
    rawR s st sz (wrS t st' sz' (wrS s st sz l (rawV s num den)) r') = rawV s num den := by
  have hl1 : (wrS s st sz l (rawV s num den)).length = n := by rw [wrS_length]; exact hl
  exact raw_of_bits hR (fun i hi => by rw [wrS_other hR' hl1 _ (fun j hj e => ho j hj i hi e.symm), wrS_at hR hl _ hi]) (rawE_parts h).2.2.1 (rawE_parts h).2.2.2
/-- two that lie apart: what is written of both is alike, and is read as each was -/
theorem apart_end {s t : Sig} {st sz st' sz' len : Nat} (hR : Rt s st sz len) (hR' : Rt t st' sz' len) {l : List UInt8} (hl : l.length = len) (ho : ∀ j, j < sz' → ∀ i, i < sz → plN s.bk st sz i ≠ plN t.bk st' sz' j) {n m : Int} (hX : rawE s sz n 1 = 0) (hX' : rawE t sz' m 1 = 0) :
    wrS s st sz (wrS t st' sz' l (rawV t m 1)) (rawV s n 1) = wrS t st' sz' (wrS s st sz l (rawV s n 1)) (rawV t m 1) ∧
    (numL (meanN s (rawR s st sz (wrS t st' sz' (wrS s st sz l (rawV s n 1)) (rawV t m 1)))) s.di = n ∧ denL (meanN s (rawR s st sz (wrS t st' sz' (wrS s st sz l (rawV s n 1)) (rawV t m 1)))) s.di = 1) ∧
    (numL (meanN t (rawR t st' sz' (wrS t st' sz' (wrS s st sz l (rawV s n 1)) (rawV t m 1)))) t.di = m ∧ denL (meanN t (rawR t st' sz' (wrS t st' sz' (wrS s st sz l (rawV s n 1)) (rawV t m 1)))) t.di = 1) := by
  have hc := wr_comm hR hR' hl ho (rawV s n 1) (rawV t m 1)
  have h1 := raw_apart hR hR' hl ho hX (rawV t m 1)
  have h2 := raw_apart hR' hR hl (fun j hj i hi e => ho i hi j hj e.symm) hX' (rawV s n 1)
  have m1 := mean_low hR hX
  have m2 := mean_low hR' hX'
  rw [(low_one n).1, (low_one n).2] at m1
  rw [(low_one m).1, (low_one m).2] at m2
  rw [← hc] at h2
  refine ⟨hc.symm, ?_, ?_⟩
  · rw [h1]; exact m1
  · rw [h2]; exact m2
/-- Write, in one sentence -/
theorem swrite_spec (s : Sig) (a : Option Addr) (len cap : Nat) (l : List UInt8) (num den : Int) (w : World) (h : wfS s) (hD : IsBytes w a len cap l) :
    Calls Tryz.prog 31 #[sgV s, .slice a len cap, .int .i64 num, .int .i64 den] w fun e w' => Below w.heap.size w w' ∧
      ((∃ E, E ≠ 0 ∧ e = .returned (.tuple #[.slice none 0 0, .int .i64 E])) ∨
       (chkS s len = 0 ∧ ∃ st sz, Rt s st sz len ∧ rawE s sz num den = 0 ∧ ∃ g c, e = .returned (.tuple #[.slice (some ⟨g, 0, none⟩) len c, .int .i64 0]) ∧ w'.ownsRow w.heap.size 5 1 (.slice (some ⟨g, 0, none⟩) len c) len (cellsOf (wrS s st sz l (rawV s num den))))) := by
  have hlen : len ≤ maxLen := Nat.le_trans hD.2.1 hD.2.2.1
  by_cases hE : chkS s len = 0
  · obtain ⟨st, sz, hR⟩ := right_of hE
    by_cases hX : rawE s sz num den = 0
    · refine (swrite_ok s st sz a len cap l num den w h hD hE hR hX).mono ?_
      rintro e w' ⟨g, c, h1, h2, h3⟩
      exact ⟨h3, .inr ⟨hE, st, sz, hR, hX, g, c, h1, h2⟩⟩
    · refine (swrite_raw s st sz a len cap num den w h hE hR hX).mono ?_
      rintro e w' ⟨h1, h2⟩
      exact ⟨h2, .inl ⟨_, hX, h1⟩⟩
  · refine (swrite_bad s a len cap num den w h hlen hE).mono ?_
    rintro e w' ⟨h1, h2⟩
    exact ⟨h2, .inl ⟨_, hE, h1⟩⟩
theorem Rt.same {s : Sig} {st sz n st' sz' n' : Nat} (h : Rt s st sz n) (h' : Rt s st' sz' n') : st = st' ∧ sz = sz' := by
  have h1 := h.hst
  have h2 := h'.hst
  have h3 := h.hsz
  have h4 := h'.hsz
  omega
/-- Over, in one sentence -/
theorem over_spec (s t : Sig) (w : World) (h : wfS s) (h' : wfS t) :
    Calls Tryz.prog 156 #[sgV s, sgV t] w fun e w' => Below w.heap.size w w' ∧
      (e = .returned (.bool true) ∨ (e = .returned (.bool false) ∧ ∀ st sz st' sz' n n', chkS s 64 = 0 → chkS t 64 = 0 → Rt s st sz n → Rt t st' sz' n' → ∀ j, j < sz' → ∀ i, i < sz → plN s.bk st sz i ≠ plN t.bk st' sz' j)) := by
  by_cases hE : chkS s 64 = 0 ∧ chkS t 64 = 0
  · obtain ⟨st, sz, hR⟩ := right_of (n := 64) hE.1
    obtain ⟨st', sz', hR'⟩ := right_of (n := 64) hE.2
    refine (over_ok s t st sz st' sz' w h h' hE.1 hE.2 hR hR').mono ?_
    rintro e w' ⟨h1, h2⟩
    refine ⟨h2, ?_⟩
    cases ho : ovN s.bk st sz t.bk st' sz' with
    | true => rw [ho] at h1; exact .inl h1
    | false =>
      rw [ho] at h1
      refine .inr ⟨h1, fun a b a' b' n n' _ _ hA hB => ?_⟩
      obtain ⟨rfl, rfl⟩ := hA.same hR
      obtain ⟨rfl, rfl⟩ := hB.same hR'
      exact ovN_apart ho
  · refine (over_bad s t w h h' (by
      by_cases h1 : chkS s 64 = 0
      · exact .inr (fun h2 => hE ⟨h1, h2⟩)
      · exact .inl h1)).mono ?_
    rintro e w' ⟨h1, h2⟩
    exact ⟨h2, .inr ⟨h1, fun _ _ _ _ _ _ hA hB => absurd ⟨hA, hB⟩ hE⟩⟩
end Bw
end Go.Proofs.YtlnkhlifkooohaaGreatDoor
