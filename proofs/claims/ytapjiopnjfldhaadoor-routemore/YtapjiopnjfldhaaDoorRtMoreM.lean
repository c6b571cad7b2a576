/- The law RouteMore, on plain places. -/
import Derived.Test.YtapjiopnjfldhaaDoorRtRoundM
import Derived.Test.YtapjiopnjfldhaaDoorRtClone
namespace Go.Proofs.YtapjiopnjfldhaaDoor
open Go.ChangeShapes Go.WideShapes Go.ChangeAt Go.RowKit
namespace Bw
open Bm Cm
set_option linter.unusedVariables false
theorem nxt_more {rs : List Rt} {r : Rt} {lo fa re : Bool} {sz : Int} {len : Nat} {p q : Pl} (h : q ∈ nxt rs lo fa re sz len p) : q ∈ nxt (rs ++ [r]) lo fa re sz len p := by
  rw [nxt_add]
  exact List.mem_append_left _ h
/-- with one route more: no round that was, and no line that was, is lost -/
theorem more_ok {rs : List Rt} {r : Rt} {bus id : Int} {lo fa re : Bool} {sz : Int} {len : Nat} {dt : List UInt8} {w : World} {a1 a2 : Option Addr} {n1 c1 n2 c2 : Nat} {E1 E2 : Int}
    (h1 : SpA rs bus id lo fa re sz len dt w a1 n1 c1 E1) (h2 : SpA (rs ++ [r]) bus id lo fa re sz len dt w a2 n2 c2 E2) (h0 : E2 = 0) :
    E1 ≠ 13 ∧ (E1 = 0 → ∃ P1 P2, IsLns w a1 n1 c1 P1 dt ∧ IsLns w a2 n2 c2 P2 dt ∧ ∀ x ∈ P1, P2.any (sameB x) = true) := by
  by_cases hs2 : spE (rs ++ [r]) bus id lo fa re sz len = 0
  rotate_left
  · have := (h2.bad hs2).1
    exact absurd (this.symm.trans h0) hs2
  obtain ⟨PB, bB, hWB, -, hRB, kB1, kB2, kB3⟩ := h2.ok hs2
  have hbB : bB = false := by
    cases bB with
    | false => rfl
    | true => have := (kB1 rfl).1; omega
  subst hbB
  have hlB : PB.length ≤ 1000 := by
    refine Classical.byContradiction fun hc => ?_
    have := (kB2 rfl (by omega)).1
    omega
  obtain ⟨-, -, P2, hL2, hp2, -⟩ := kB3 rfl hlB
  by_cases hs1 : spE rs bus id lo fa re sz len = 0
  rotate_left
  · have e1 := (h1.bad hs1).1
    exact ⟨by rw [e1]; exact spE_no13 _ _ _ _ _ _ _ _, fun h => absurd (e1.symm.trans h) hs1⟩
  obtain ⟨PA, bA, hWA, -, hRA, kA1, kA2, kA3⟩ := h1.ok hs1
  have hsub := web_sub hWA hWB (by omega) (fun p q h => nxt_more h)
  have hbA : bA = false := by
    cases bA with
    | false => rfl
    | true =>
      exfalso
      obtain ⟨S, hS, p, hp⟩ := round_yes hWA hRA
      refine round_no hWB hRB (S := S) (fun q hq => ?_) p hp
      obtain ⟨hq1, p', hp', hx⟩ := hS q hq
      exact ⟨hsub q hq1, p', hp', nxt_more hx⟩
  subst hbA
  by_cases hlA : PA.length ≤ 1000
  rotate_left
  · have e1 := (kA2 rfl (by omega)).1
    exact ⟨by omega, fun h => by omega⟩
  obtain ⟨e1, -, P1, hL1, hp1, -⟩ := kA3 rfl hlA
  refine ⟨by omega, fun _ => ⟨P1, P2, hL1, hL2, fun x hx => ?_⟩⟩
  obtain ⟨lA, rfl⟩ := web_head hWA
  obtain ⟨lB, rfl⟩ := web_head hWB
  simp only [List.drop_succ_cons, List.drop_zero] at hp1 hp2
  have hk : x.k ∈ lA.map (plK lo fa re sz len) := hp1.mem_iff.1 (List.mem_map_of_mem hx)
  obtain ⟨p, hp, hpk⟩ := List.mem_map.1 hk
  have hne : p ≠ (bus, id) := by
    intro e
    have := hWA.nodup
    rw [List.nodup_cons] at this
    exact this.1 (e ▸ hp)
  have hpB : p ∈ lB := by
    rcases List.mem_cons.1 (hsub p (List.mem_cons_of_mem _ hp)) with h | h
    · exact absurd h hne
    · exact h
  have hk2 : plK lo fa re sz len p ∈ P2.map LnR.k := hp2.mem_iff.2 (List.mem_map_of_mem hpB)
  obtain ⟨y, hy, hyk⟩ := List.mem_map.1 hk2
  rw [List.any_eq_true]
  refine ⟨y, hy, ?_⟩
  rw [← hpk] at hk
  have e := hyk.trans hpk
  unfold LnR.k at e
  simp only [Prod.mk.injEq] at e
  unfold sameB
  simp [e.2.1, e.2.2.1, e.2.2.2.1, e.2.2.2.2.1, e.2.2.2.2.2.1, e.2.2.2.2.2.2.1]
end Bw
end Go.Proofs.YtapjiopnjfldhaaDoor
