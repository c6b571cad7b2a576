/- Rounds and webs, on plain places; what Spread answers, in one form. -/
import Derived.Test.YtapjiopnjfldhaaDoorRtSpread
namespace Go.Proofs.YtapjiopnjfldhaaDoor
open Go.ChangeShapes Go.WideShapes Go.ChangeAt Go.RowKit
namespace Bw
open Bm
set_option linter.unusedVariables false
theorem nxL_row {nx : Pl → List Pl} {s : Pl} {P : List Pl} {j : Nat} (hj : j < P.length) : (nxL nx s P P.length).getD j [] = idxL P (nx (P.getD j s)) := by
  simp [nxL, List.getD, hj]
theorem nxL_len (nx : Pl → List Pl) (s : Pl) (P : List Pl) : (nxL nx s P P.length).length = P.length := by simp [nxL]
theorem idxL_mem {P qs : List Pl} {i : Nat} (hP : P.Nodup) (hi : i < P.length) : ((i : Int) ∈ idxL P qs) ↔ P[i] ∈ qs := by
  unfold idxL
  rw [List.mem_map]
  constructor
  · rintro ⟨q, hq, he⟩
    rw [List.mem_filter] at hq
    have hm : q ∈ P := by simpa using hq.2
    have hx : P.idxOf q = i := by omega
    have hlt := List.idxOf_lt_length_of_mem hm
    have e : P[P.idxOf q] = q := List.getElem_idxOf hlt
    have e2 : P[i] = q := by rw [← e]; congr 1; exact hx.symm
    rw [e2]
    exact hq.1
  · intro hq
    refine ⟨P[i], List.mem_filter.2 ⟨hq, by simp⟩, ?_⟩
    rw [hP.idxOf_getElem i hi]
/-- a set of places in which each is carried on from one of it -/
def Ring (nx : Pl → List Pl) (P : List Pl) (S : Pl → Prop) : Prop := ∀ q, S q → q ∈ P ∧ ∃ p, S p ∧ q ∈ nx p
theorem round_yes {F : Nat} {nx : Pl → List Pl} {s : Pl} {P : List Pl} (hW : Web F nx s P P.length) (h : Kn.Round (nxL nx s P P.length) true) : ∃ S, Ring nx P S ∧ ∃ p, S p := by
  obtain ⟨R, ⟨i, hi, hRi⟩, hall⟩ := h.yes rfl
  rw [nxL_len] at hi
  refine ⟨fun q => ∃ i, ∃ h : i < P.length, R i ∧ P[i] = q, ?_, P[i], i, hi, hRi, rfl⟩
  rintro q ⟨k, hk, hRk, rfl⟩
  refine ⟨List.getElem_mem hk, ?_⟩
  obtain ⟨-, j, hj, hRj, hx⟩ := hall k hRk
  rw [nxL_len] at hj
  rw [nxL_row hj, idxL_mem hW.nodup hk] at hx
  have e : P.getD j s = P[j] := by simp [List.getD, hj]
  rw [e] at hx
  exact ⟨P[j], ⟨j, hj, hRj, rfl⟩, hx⟩
theorem round_no {F : Nat} {nx : Pl → List Pl} {s : Pl} {P : List Pl} (hW : Web F nx s P P.length) (h : Kn.Round (nxL nx s P P.length) false) {S : Pl → Prop} (hS : Ring nx P S) : ∀ q, ¬ S q := by
  obtain ⟨O, hnd, hcov, hord⟩ := h.no rfl
  rw [nxL_len] at hcov hord
  have key : ∀ m, m < O.length → ∀ q, S q → (hk : O.getD m 0 < P.length) → P[O.getD m 0] ≠ q := by
    intro m
    induction m using Nat.strongRecOn with
    | ind m ih =>
      intro hm q hq hk e
      obtain ⟨-, p, hp, hx⟩ := hS q hq
      obtain ⟨hpP, -⟩ := hS p hp
      obtain ⟨j, hj, rfl⟩ := List.mem_iff_getElem.1 hpP
      have hin : ((O.getD m 0 : Nat) : Int) ∈ (nxL nx s P P.length).getD j [] := by
        rw [nxL_row hj, idxL_mem hW.nodup hk]
        have e2 : P.getD j s = P[j] := by simp [List.getD, hj]
        rw [e2, e]
        exact hx
      obtain ⟨m', hm', he'⟩ := hord m hm j hj hin
      exact ih m' hm' (by omega) P[j] hp (by rw [he']; exact hj) (by congr 1)
  intro q hq
  obtain ⟨hqP, -⟩ := hS q hq
  obtain ⟨i, hi, rfl⟩ := List.mem_iff_getElem.1 hqP
  obtain ⟨m, hm, he⟩ := List.mem_iff_getElem.1 (hcov i hi)
  have hg : O.getD m 0 = i := by simp [List.getD, hm, he]
  exact key m hm _ hq (by rw [hg]; exact hi) (by congr 1)
/-- where there is room, all that is carried on is there -/
theorem web_shut {F : Nat} {nx : Pl → List Pl} {s : Pl} {P : List Pl} (hW : Web F nx s P P.length) (hF : P.length < F) {p q : Pl} (hp : p ∈ P) (hq : q ∈ nx p) : q ∈ P := by
  obtain ⟨i, hi, rfl⟩ := List.mem_iff_getElem.1 hp
  have h := hW.shut i hi
  have e : P.getD i s = P[i] := by simp [List.getD, hi]
  rw [e] at h
  rcases h with h | h
  · omega
  · exact h q hq
theorem web_head {F : Nat} {nx : Pl → List Pl} {s : Pl} {P : List Pl} {k : Nat} (hW : Web F nx s P k) : ∃ l, P = s :: l := by
  have := hW.head
  cases P with
  | nil => cases this
  | cons a l => exact ⟨l, by simp at this; rw [this]⟩
/-- what comes by fewer ways comes by more -/
theorem web_sub {F : Nat} {nx nx' : Pl → List Pl} {s : Pl} {P P' : List Pl} (hW : Web F nx s P P.length) (hW' : Web F nx' s P' P'.length) (hF : P'.length < F) (hsub : ∀ p q, q ∈ nx p → q ∈ nx' p) : ∀ p ∈ P, p ∈ P' := by
  have key : ∀ i, i < P.length → P.getD i s ∈ P' := by
    intro i
    induction i using Nat.strongRecOn with
    | ind i ih =>
      intro hi
      by_cases h0 : i = 0
      · subst h0
        obtain ⟨l, rfl⟩ := web_head hW
        obtain ⟨l', rfl⟩ := web_head hW'
        simp
      · obtain ⟨j, hj, hx⟩ := hW.from' i (by omega) hi
        exact web_shut hW' hF (ih j hj (by omega)) (hsub _ _ hx)
  intro p hp
  obtain ⟨i, hi, rfl⟩ := List.mem_iff_getElem.1 hp
  have := key i hi
  simpa [List.getD, hi] using this
theorem frEn_64 {id : Int} {lo fa re : Bool} {sz : Int} {n : Nat} (h : frEn id lo fa re sz n = 0) : n ≤ 64 := by
  unfold frEn at h
  split at h
  · cases h
  · split at h
    · cases h
    · split at h
      · cases h
      · split at h
        · cases h
        · omega
theorem spE_no13 (rs : List Rt) (bus id : Int) (lo fa re : Bool) (sz : Int) (len : Nat) : spE rs bus id lo fa re sz len ≠ 13 := by
  have h1 : ∀ ts, chkG rs ts ≠ 13 := by
    intro ts
    unfold chkG
    (repeat' split) <;> decide
  have h2 : frEn id lo fa re sz len ≠ 13 := by
    unfold frEn
    (repeat' split) <;> decide
  unfold spE
  split
  · exact h1 _
  · split
    · exact h2
    · split <;> decide
/-- what Spread answers of anything -/
structure SpA (rs : List Rt) (bus id : Int) (lo fa re : Bool) (sz : Int) (len : Nat) (dt : List UInt8) (w : World) (a : Option Addr) (n c : Nat) (E : Int) : Prop where
  bad : spE rs bus id lo fa re sz len ≠ 0 → E = spE rs bus id lo fa re sz len ∧ n = 0
  ok : spE rs bus id lo fa re sz len = 0 → ∃ (P : List Pl) (b : Bool), Web 100000 (nxt rs lo fa re sz len) (bus, id) P P.length ∧ (∀ p ∈ P, frEn p.2 lo fa re sz len = 0) ∧ Kn.Round (nxL (nxt rs lo fa re sz len) (bus, id) P P.length) b ∧
      (b = true → E = 13 ∧ n = 0) ∧ (b = false → 1000 < P.length → E = 2 ∧ n = 0) ∧ (b = false → P.length ≤ 1000 → E = 0 ∧ n = P.length - 1 ∧ ∃ P', IsLns w a n c P' dt ∧ (P'.map LnR.k).Perm ((P.drop 1).map (plK lo fa re sz len)) ∧ P'.Pairwise (fun u v => ¬ (v.bs < u.bs ∨ (v.bs = u.bs ∧ v.id < u.id))))
theorem spread_any (hST : SortLn) (a : Option Addr) (n c : Nat) (rs : List Rt) (bus id : Int) (lo fa re : Bool) (sz : Int) (fa0 : Option Addr) (len cap : Nat) (dt : List UInt8) (w : World) (hR : IsRts w a n c rs) (hL : LastsAt w) (hS : SizesAt w) (hD : IsBytes w fa0 len cap dt) (hn : n ≤ 3000000000000) :
    Calls Tryd.prog 19 #[.slice a n c, .int .i64 bus, frameV id lo fa re sz fa0 len cap] w fun e w' => (∃ a' n' c' E, e = .returned (.tuple #[.slice a' n' c', .int .i64 E]) ∧ SpA rs bus id lo fa re sz len dt w' a' n' c' E) ∧ Below w.heap.size w w' := by
  by_cases h1 : chkG rs (neg1 rs.length) = 0
  · by_cases h2 : frEn id lo fa re sz len = 0
    · cases h3 : busB bus with
      | false =>
        have hE : spE rs bus id lo fa re sz len = 3 := by simp [spE, h1, h2, h3]
        refine (spread_e3 a n c rs bus id lo fa re sz fa0 len cap dt w hR hL hS hD hn h1 h2 h3).mono ?_
        rintro e w' ⟨rfl, hb⟩
        exact ⟨⟨_, _, _, _, rfl, fun _ => ⟨hE.symm, rfl⟩, fun h => by rw [hE] at h; cases h⟩, hb⟩
      | true =>
        have hE : spE rs bus id lo fa re sz len = 0 := by simp [spE, h1, h2, h3]
        refine (spread_go a n c rs bus id lo fa re sz fa0 len cap dt w hR hL hS hD hn hST (by have := frEn_64 h2; omega) h1 h2 h3).mono ?_
        rintro e w' ⟨⟨P, b, a', n', c', E, rfl, hW, hF, hR, k1, k2, k3⟩, hb⟩
        refine ⟨⟨a', n', c', E, rfl, fun h => absurd hE h, fun _ => ⟨P, b, hW, hF, hR, k1, k2, fun h4 h5 => ?_⟩⟩, hb⟩
        exact k3 h4 h5
    · have hE : spE rs bus id lo fa re sz len = frEn id lo fa re sz len := by simp [spE, h1, h2]
      refine (spread_e2 a n c rs bus id lo fa re sz fa0 len cap dt w hR hL hS hD hn h1 h2).mono ?_
      rintro e w' ⟨rfl, hb⟩
      exact ⟨⟨_, _, _, _, rfl, fun _ => ⟨hE.symm, rfl⟩, fun h => by rw [hE] at h; exact absurd h h2⟩, hb⟩
  · have hE : spE rs bus id lo fa re sz len = chkG rs (neg1 rs.length) := by simp [spE, h1]
    refine (spread_e1 a n c rs bus id lo fa re sz fa0 len cap dt w hR hL hS hD hn h1).mono ?_
    rintro e w' ⟨rfl, hb⟩
    exact ⟨⟨_, _, _, _, rfl, fun _ => ⟨hE.symm, rfl⟩, fun h => by rw [hE] at h; exact absurd h h1⟩, hb⟩
theorem SpA.kept {rs : List Rt} {bus id : Int} {lo fa re : Bool} {sz : Int} {len : Nat} {dt : List UInt8} {w w' : World} {a : Option Addr} {n c : Nat} {E : Int} (h : SpA rs bus id lo fa re sz len dt w a n c E) (hb : Below w.heap.size w w') : SpA rs bus id lo fa re sz len dt w' a n c E :=
  ⟨h.bad, fun h0 => by
    obtain ⟨P, b, h1, h2, h3, h4, h5, h6⟩ := h.ok h0
    exact ⟨P, b, h1, h2, h3, h4, h5, fun k1 k2 => by
      obtain ⟨q1, q2, P', q3, q4⟩ := h6 k1 k2
      exact ⟨q1, q2, P', q3.kept hb, q4⟩⟩⟩
end Bw
end Go.Proofs.YtapjiopnjfldhaaDoor
