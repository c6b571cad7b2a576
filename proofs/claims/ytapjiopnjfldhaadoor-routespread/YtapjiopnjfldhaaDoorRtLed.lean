/- The Route laws' closed fact: one route, spread and stepped. -/
import Derived.Test.YtapjiopnjfldhaaDoorRtSort
import Derived.Test.YtapjiopnjfldhaaDoorRtSpread
import Derived.Test.YtapjiopnjfldhaaDoorA17
namespace Go.Proofs.YtapjiopnjfldhaaDoor
open Go.ChangeShapes Go.WideShapes Go.ChangeAt Go.RowKit
namespace Bw
open Bm Cm
set_option linter.unusedVariables false
def oneR : Rt := ⟨0, 1, ⟨0, 0, false⟩, 2, 0⟩
def nx1 : Pl → List Pl := nxt [oneR] false false false 0 0
theorem one_chk : chkG [oneR] (neg1 1) = 0 := by decide
theorem one_fr : frEn 5 false false false 0 0 = 0 := by decide
theorem one_stE : stE [oneR] (neg1 1) 9 0 5 false false false 0 0 = 0 := by decide
theorem one_snt : sntL [oneR] (neg1 1) 9 0 5 false false false 0 0 1 = [(1, 7)] := by decide
theorem one_new : newL [oneR] (neg1 1) 9 0 5 false false false 0 0 1 = [9] := by decide
theorem nx_a : nx1 (0, 5) = [(1, 7)] := by decide
theorem nx_b : nx1 (1, 7) = [] := by decide
theorem web_one {P : List Pl} (h : Web 100000 nx1 (0, 5) P P.length) : P = [(0, 5), (1, 7)] := by
  have hall : ∀ i, i < P.length → (P.getD i (0, 5) = (0, 5) ∨ P.getD i (0, 5) = (1, 7)) := by
    intro i
    induction i using Nat.strongRecOn with
    | ind i ih =>
      intro hi
      by_cases h0 : i = 0
      · subst h0
        left
        have := h.head
        cases P with
        | nil => cases this
        | cons a l => simpa using this
      · obtain ⟨j, hj, hx⟩ := h.from' i (by omega) hi
        rcases ih j hj (by omega) with e | e
        · rw [e, nx_a] at hx
          right
          simpa using hx
        · rw [e, nx_b] at hx
          cases hx
  have hmem : ∀ p ∈ P, p = (0, 5) ∨ p = (1, 7) := by
    intro p hp
    obtain ⟨i, hi, rfl⟩ := List.mem_iff_getElem.1 hp
    have := hall i hi
    simpa [List.getD, hi] using this
  have hhd := h.head
  have hnd := h.nodup
  have hsh := h.shut
  have hln := h.len
  clear hall
  match P, hmem, hhd, hnd, hsh with
  | [], _, hhd, _, _ => cases hhd
  | [a], hmem, hhd, hnd, hsh =>
    have ha : a = (0, 5) := by simpa using hhd
    subst ha
    have := hsh 0 (by simp)
    simp only [List.getD_cons_zero] at this
    rw [nx_a] at this
    rcases this with h1 | h1
    · simp at h1
    · have := h1 (1, 7) (by simp)
      simp at this
  | [a, b], hmem, hhd, hnd, hsh =>
    have ha : a = (0, 5) := by simpa using hhd
    subst ha
    rcases hmem b (by simp) with rfl | rfl
    · simp at hnd
    · rfl
  | a :: b :: c :: l, hmem, hhd, hnd, hsh =>
    exfalso
    have ha := hmem a (by simp)
    have hb := hmem b (by simp)
    have hc := hmem c (by simp)
    simp only [List.nodup_cons, List.mem_cons, not_or] at hnd
    obtain ⟨⟨n1, n2, -⟩, ⟨n3, -⟩, -⟩ := hnd
    rcases ha with rfl | rfl <;> rcases hb with rfl | rfl <;> rcases hc with rfl | rfl <;> first | exact n1 rfl | exact n2 rfl | exact n3 rfl
theorem round_one {b : Bool} (h : Kn.Round (nxL nx1 (0, 5) [(0, 5), (1, 7)] 2) b) : b = false := by
  cases b with
  | false => rfl
  | true =>
    exfalso
    obtain ⟨R, ⟨i, hi, hRi⟩, hall⟩ := h.yes rfl
    have e : nxL nx1 (0, 5) [(0, 5), (1, 7)] 2 = [[1], []] := by
      simp [nxL, List.range_succ, nx_a, nx_b, idxL]
      rfl
    rw [e] at hall
    have h0 : ¬ R 0 := by
      intro h0
      obtain ⟨-, j, hj, -, hx⟩ := hall 0 h0
      have hj2 : j = 0 ∨ j = 1 := by simp at hj; omega
      rcases hj2 with rfl | rfl <;> simp at hx
    have h1 : ¬ R 1 := by
      intro h1
      obtain ⟨-, j, hj, hRj, hx⟩ := hall 1 h1
      have hj2 : j = 0 ∨ j = 1 := by simp at hj; omega
      rcases hj2 with rfl | rfl
      · exact h0 hRj
      · simp at hx
    have h2 := (hall i hRi).1
    have hi2 : i = 0 ∨ i = 1 := by simp at h2; omega
    rcases hi2 with rfl | rfl
    · exact h0 hRi
    · exact h1 hRi
theorem rts_new (w : World) : IsRts (w.alloc (rtC oneR)) (some ⟨w.heap.size, 0, none⟩) 1 1 [oneR] := by
  have h := RtAt.new w oneR
  refine ⟨rfl, Nat.le_refl _, by unfold maxLen; omega, fun e => (by cases e), fun x hx i hi => ?_⟩
  cases hx
  obtain rfl : i = 0 := by omega
  exact ⟨h.c0, h.c1, h.c2, h.c3, h.c4, h.c5, h.c6⟩
theorem bytes_nil (w : World) : IsBytes w none 0 0 [] := ⟨rfl, Nat.le_refl _, Nat.zero_le _, fun _ => rfl, fun x hx => by cases hx⟩
theorem lns_one {w : World} {a : Option Addr} {n c : Nat} {P : List LnR} {dt : List UInt8} {q : Int × Int × Int × Bool × Bool × Bool × Int × Nat} (h : IsLns w a n c P dt) (hp : P.map LnR.k = [q]) : n = 1 ∧ ∃ x, a = some x ∧ w.cell? x = some (.int .i64 q.1) ∧ w.cell? ⟨x.block, x.off + 1, none⟩ = some (.int .i64 q.2.1) ∧ w.cell? ⟨x.block, x.off + 2, none⟩ = some (.int .i64 q.2.2.1) := by
  match P, hp with
  | [v], hp =>
    have hn : n = 1 := by have := h.len; simpa using this.symm
    subst hn
    obtain ⟨x, rfl⟩ := h.some (show 0 < 1 by omega)
    have hc := h.cell x rfl 0 (by omega)
    simp only [List.map_cons, List.map_nil, List.cons.injEq, and_true] at hp
    subst hp
    have ex : x.add (0 * 8) = x := by unfold Addr.add; simp
    rw [ex] at hc
    exact ⟨rfl, x, rfl, hc.c0, hc.c1, hc.c2⟩
set_option maxHeartbeats 8000000 in
set_option maxRecDepth 100000 in
theorem routed_any : RoutedIs := by
  intro w hL hS
  have hb1 := awB w (rtC oneR)
  have HB1 := Hid.mk hb1
  have HLL := Hid.mk hL
  have HSS := Hid.mk hS
  have HSP := Hid.mk (spread_go (some ⟨w.heap.size, 0, none⟩) 1 1 [oneR] 0 5 false false false 0 none 0 0 [] (w.alloc (rtC oneR)) (rts_new w) (hL.kept hb1) (hS.kept hb1) (bytes_nil _) (by omega) sortLn (by omega) one_chk one_fr rfl)
  unfold rtC oneR at HB1 HSP
  unfold frameV at HSP
  simp only at HB1 HSP
  clear hL hS hb1
  go_enter Tryd.func10, Tryd.ntmps10
  go_wp2_with fail
  refine HSP.out.mono ?_
  rintro e w1 ⟨⟨P, b, a1, n1, c1, E, rfl, hW, -, hRo, hy, hz, hg⟩, hb1⟩
  have hP := web_one hW
  subst hP
  have hb := round_one hRo
  subst hb
  obtain ⟨rfl, -, P1, hL1, hperm, -⟩ := hg rfl (by simp)
  have hone := lns_one hL1 (List.perm_singleton.1 hperm)
  obtain ⟨rfl, x1, rfl, -, -, hc1⟩ := hone
  have HC1 := Hid.mk hc1
  have hB1 := bl2 HB1.out hb1
  have hb2 := awB w1 (rtC oneR)
  have HB2 := Hid.mk (bl2 hB1 hb2)
  have HC2 := Hid.mk (cell_kept hb2 hc1)
  have HNW := Hid.mk (new_any (some ⟨w1.heap.size, 0, none⟩) 1 1 [oneR] (w1.alloc (rtC oneR)) (rts_new w1) (HLL.out.kept HB2.out) (by omega))
  unfold rtC oneR at HB2 HC2 HNW
  simp only at HB2 HC2 HNW
  clear hW hRo hy hz hg hb1 hL1 hperm hc1 hB1 hb2 HSP HB1 HC1
  go_wp2_with fail
  refine HNW.out.mono ?_
  rintro e w2 ⟨hb2, ⟨hX, -⟩ | ⟨-, a2, c2, b2, d2, rfl, hR2, hN2⟩⟩
  · exact absurd one_chk hX
  have hg2 := awB w2 (gaC a2 1 c2 b2 1 d2)
  have HB3 := Hid.mk (bl2 (bl2 HB2.out hb2) hg2)
  have HC3 := Hid.mk (cell_kept hg2 (cell_kept hb2 HC2.out))
  have HG3 := Hid.mk (GaAt.new w2 a2 1 c2 b2 1 d2)
  have HST := Hid.mk (step_ok a2 1 c2 b2 1 d2 [oneR] (neg1 1) 9 0 5 false false false 0 none 0 0 [] (w2.alloc (gaC a2 1 c2 b2 1 d2)) (hR2.kept hg2) (hN2.kept hg2) (HLL.out.kept HB3.out) (HSS.out.kept HB3.out) (by unfold maxLen; omega) (bytes_nil _) one_stE (by decide))
  unfold gaC at HB3 HC3 HG3 HST
  unfold gaV frameV at HST
  unfold gaV
  obtain ⟨g0, g1⟩ := HG3.out.cells
  clear hb2 hR2 hN2 hg2 HB2 HC2 HNW
  go_wp2_with fail
  refine HST.out.mono ?_
  rintro e w3 ⟨a3, c3, b3, d3, l3, lc3, P3, rfl, -, -, hO3, hM3, hb3⟩
  rw [one_snt] at hM3
  have hL3 := lns_of hO3.row rfl hO3.bytes
  obtain ⟨hn3, x3, rfl, e0, e1, -⟩ := lns_one hL3 hM3
  rw [hn3]
  have hg3 := awB w3 (.cells #[.slice a3 1 c3, .slice b3 1 d3] 25)
  have HB4 := Hid.mk (bl2 (bl2 HB3.out hb3) hg3)
  have k1 := cell_kept hg3 (cell_kept hb3 HC3.out)
  have k2 := cell_kept hg3 e0
  have k3 := cell_kept hg3 e1
  unfold lnK at k2 k3
  unfold plK at k1
  simp only at k1 k2 k3
  clear hO3 hM3 hb3 hL3 hn3 e0 e1 hg3 HB3 HC3 HG3 HST g0 g1
  go_wp2_with fail
  refine bodyPost_ret (results_tmp rfl _ _ _) rfl ?_
  exact ⟨rfl, HB4.out⟩
end Bw
end Go.Proofs.YtapjiopnjfldhaaDoor
