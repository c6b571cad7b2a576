/- The law PartSend. -/
import Derived.Test.YtljigcmhkjbhjaaPtSplitLaw
namespace Go.Proofs.Ytljigcmhkjbhjaa
open Go.ChangeShapes Go.WideShapes Go.ChangeAt Go.RowKit
namespace Bw
open Bm
set_option linter.unusedVariables false
set_option maxHeartbeats 4000000 in
set_option maxRecDepth 100000 in
theorem psend_low (a : Option Addr) (len cap : Nat) (block : Int) (w : World) (h : inP block 0 255 = false) (h0 : block < 0) :
    Calls Try.prog 6 #[.slice a len cap, .int .i64 block] w fun e w' => e = .returned (.bool true) ∧ Below w.heap.size w w' := by
  have HSD := Hid.mk (send_range a len cap block w h)
  have hPT := fun W => parted_any W
  clear h
  go_enter Try.func6, Try.ntmps6
  go_wp2_with fail
  refine HSD.out.mono ?_
  rintro e w1 ⟨rfl, hw1⟩
  rw [hw1]
  clear hw1 HSD
  go_wp2_with fail
  refine (hPT _).mono ?_
  rintro e w2 ⟨rfl, hb2⟩
  have HB2 := Hid.mk hb2
  clear hb2
  go_wp2_with fail
  refine (hPT _).mono ?_
  rintro e w3 ⟨rfl, hb3⟩
  have HB3 := Hid.mk (bl2 HB2.out hb3)
  clear hb3 HB2
  go_wp2_with fail
  go_ret
  exact ⟨rfl, HB3.out⟩
set_option maxHeartbeats 4000000 in
set_option maxRecDepth 100000 in
theorem psend_high (a : Option Addr) (len cap : Nat) (block : Int) (w : World) (h : inP block 0 255 = false) (h0 : 255 < block) :
    Calls Try.prog 6 #[.slice a len cap, .int .i64 block] w fun e w' => e = .returned (.bool true) ∧ Below w.heap.size w w' := by
  have HSD := Hid.mk (send_range a len cap block w h)
  have hPT := fun W => parted_any W
  have h0' : ¬ (block < 0) := by omega
  clear h
  go_enter Try.func6, Try.ntmps6
  go_wp2_with fail
  refine HSD.out.mono ?_
  rintro e w1 ⟨rfl, hw1⟩
  rw [hw1]
  clear hw1 HSD
  go_wp2_with fail
  refine (hPT _).mono ?_
  rintro e w2 ⟨rfl, hb2⟩
  have HB2 := Hid.mk hb2
  clear hb2
  go_wp2_with fail
  refine (hPT _).mono ?_
  rintro e w3 ⟨rfl, hb3⟩
  have HB3 := Hid.mk (bl2 HB2.out hb3)
  clear hb3 HB2
  go_wp2_with fail
  go_ret
  exact ⟨rfl, HB3.out⟩
set_option maxHeartbeats 4000000 in
set_option maxRecDepth 100000 in
theorem psend_bad (a : Option Addr) (len cap : Nat) (block : Int) (w : World) (h : 0 ≤ block ∧ block ≤ 255) (hl : len ≤ maxLen) (hE : szP len ≠ 0) :
    Calls Try.prog 6 #[.slice a len cap, .int .i64 block] w fun e w' => e = .returned (.bool true) ∧ Below w.heap.size w w' := by
  have HSD := Hid.mk (send_bad a len cap block w (inP_yes h) hl hE)
  have hPT := fun W => parted_any W
  have hBD := fun W => badData_any a len cap W hl
  have hne : (szP len != 0) = true := by simpa using hE
  obtain ⟨h0, h5⟩ := h
  have h0' : ¬ (block < 0) := by omega
  have h5' : ¬ (255 < block) := by omega
  clear hl hE
  generalize szP len = E at *
  go_enter Try.func6, Try.ntmps6
  go_wp2_with fail
  refine HSD.out.mono ?_
  rintro e w1 ⟨rfl, hb1⟩
  have HB1 := Hid.mk hb1
  clear hb1 HSD
  go_wp2_with fail
  refine (hBD _).mono ?_
  rintro e w2 ⟨rfl, hw2⟩
  rw [hw2]
  clear hw2 hBD
  go_wp2_with fail
  refine (hPT _).mono ?_
  rintro e w2 ⟨rfl, hb2⟩
  have HB2 := Hid.mk (bl2 HB1.out hb2)
  clear hb2 HB1
  go_wp2_with fail
  refine (hPT _).mono ?_
  rintro e w3 ⟨rfl, hb3⟩
  have HB3 := Hid.mk (bl2 HB2.out hb3)
  clear hb3 HB2
  go_wp2_with fail
  go_ret
  exact ⟨by first | rfl | simp, HB3.out⟩
set_option maxHeartbeats 8000000 in
set_option maxRecDepth 100000 in
theorem psend_one (x : Addr) (len cap b : Nat) (l : List UInt8) (w : World) (hD : IsBytes w (some x) len cap l) (h1 : 1 ≤ len) (h3 : len ≤ 300) (hb : b ≤ 255) (h7 : len ≤ 7) :
    Calls Try.prog 6 #[.slice (some x) len cap, .int .i64 (b : Int)] w fun e w' => e = .returned (.bool true) ∧ Below w.heap.size w w' := by
  have hl := Nat.le_trans hD.2.1 hD.2.2.1
  have HSD : Hid (Calls Try.prog 26 #[.slice (some x) len cap, .int .i64 (b : Int)] w fun e w' => ∃ o m c, e = .returned (.tuple #[.slice o m c, .int .i64 (pcN b (nxN len)), .int .i64 0]) ∧ IsBytes w' o m c l ∧ Below w.heap.size w w') := Hid.mk (send_ok x len cap b l w hD h1 h3 (by omega))
  have hPT := fun W => parted_any W
  have hBD := fun W => badData_any (some x) len cap W hl
  simp only [szP_yes h1 h3] at hBD
  have HPO := Hid.mk (fun W (h : Below w.heap.size w W) => partsOf_any x len cap l W (isBytes_below hD h) h1 h3)
  have HD := Hid.mk hD
  have hnx := nx_le len h3
  obtain ⟨NP, hNP⟩ : ∃ NP, NP = 1 + nxN len := ⟨_, rfl⟩
  obtain ⟨PC, hPC⟩ : ∃ PC, PC = pcN b (nxN len) := ⟨_, rfl⟩
  rw [← hPC] at HSD
  have HNP := Hid.mk hNP
  have hNPb : (NP : Int) ≤ 43 := by omega
  have hn0 : nxN len = 0 := by unfold nxN; rw [if_pos h7]
  have e1 : NP = 1 := by omega
  subst e1
  have e2 : PC = 1 := by rw [hPC, hn0]; rfl
  subst e2
  have h0' : ¬ ((b : Int) < 0) := by omega
  have h5' : ¬ ((255 : Int) < (b : Int)) := by omega
  clear hn0
  clear hD hl hPC hNP hnx
  go_enter Try.func6, Try.ntmps6
  go_wp2_with fail
  refine HSD.out.mono ?_
  rintro e w1 ⟨o, m, c, rfl, hY, hb1⟩
  have HB1 := Hid.mk hb1
  have HY1 := Hid.mk hY
  clear hb1 hY HSD
  go_wp2_with fail
  refine (hBD _).mono ?_
  rintro e w2 ⟨rfl, hw2⟩
  rw [hw2]
  clear hw2 hBD
  go_wp2_with fail
  refine (hPT _).mono ?_
  rintro e w2 ⟨rfl, hb2⟩
  have HB2 := Hid.mk (bl2 HB1.out hb2)
  have HY2 := Hid.mk (isBytes_below HY1.out hb2)
  clear hb2 HB1 HY1
  go_wp2_with fail
  refine (HPO.out _ HB2.out).mono ?_
  rintro e w6 ⟨gw, cw, nw, rfl, hnw, -, hpw, hb6⟩
  rw [← HNP.out] at hnw
  subst hnw
  have HB6 := Hid.mk (bl2 HB2.out hb6)
  have HEQ := Hid.mk (equal_is (isBytes_below HY2.out hb6) (isBytes_below HD.out HB6.out))
  clear hpw hb6 HB2 HY2 HPO
  go_wp2_with fail
  refine HEQ.out.mono ?_
  rintro e w7 ⟨rfl, hb7⟩
  have HB7 := Hid.mk (bl2 HB6.out hb7)
  clear hb7 HB6 HEQ
  go_wp2_with fail
  go_ret
  exact ⟨by first | rfl | simp, HB7.out⟩
set_option maxHeartbeats 8000000 in
set_option maxRecDepth 100000 in
theorem psend_free (x : Addr) (len cap : Nat) (l : List UInt8) (w : World) (hD : IsBytes w (some x) len cap l) (h1 : 1 ≤ len) (h3 : len ≤ 300) (h7 : 7 < len) :
    Calls Try.prog 6 #[.slice (some x) len cap, .int .i64 0] w fun e w' => e = .returned (.bool true) ∧ Below w.heap.size w w' := by
  have hl := Nat.le_trans hD.2.1 hD.2.2.1
  have HSD : Hid (Calls Try.prog 26 #[.slice (some x) len cap, .int .i64 0] w fun e w' => ∃ o m c, e = .returned (.tuple #[.slice o m c, .int .i64 (pcN 0 (nxN len)), .int .i64 0]) ∧ IsBytes w' o m c l ∧ Below w.heap.size w w') := Hid.mk (send_ok x len cap 0 l w hD h1 h3 (by omega))
  have hPT := fun W => parted_any W
  have hBD := fun W => badData_any (some x) len cap W hl
  simp only [szP_yes h1 h3] at hBD
  have HPO := Hid.mk (fun W (h : Below w.heap.size w W) => partsOf_any x len cap l W (isBytes_below hD h) h1 h3)
  have HD := Hid.mk hD
  have hnx := nx_le len h3
  obtain ⟨NP, hNP⟩ : ∃ NP, NP = 1 + nxN len := ⟨_, rfl⟩
  obtain ⟨PC, hPC⟩ : ∃ PC, PC = pcN 0 (nxN len) := ⟨_, rfl⟩
  rw [← hPC] at HSD
  have HNP := Hid.mk hNP
  have hNPb : (NP : Int) ≤ 43 := by omega
  have hn0 : 1 ≤ nxN len := by unfold nxN; rw [if_neg (by omega)]; omega
  have e1 : ¬ ((NP : Int) ≤ 1) := by omega
  have e1' : (1 : Int) < (NP : Int) := by omega
  have e2 : (NP : Int) + 1 = (PC : Int) := by rw [hPC]; unfold pcN; rw [if_neg (by omega), if_pos rfl]; omega
  have hPb : (PC : Int) ≤ 44 := by omega
  clear hn0
  clear hD hl hPC hNP hnx
  go_enter Try.func6, Try.ntmps6
  go_wp2_with fail
  refine HSD.out.mono ?_
  rintro e w1 ⟨o, m, c, rfl, hY, hb1⟩
  have HB1 := Hid.mk hb1
  have HY1 := Hid.mk hY
  clear hb1 hY HSD
  go_wp2_with fail
  refine (hBD _).mono ?_
  rintro e w2 ⟨rfl, hw2⟩
  rw [hw2]
  clear hw2 hBD
  go_wp2_with fail
  refine (hPT _).mono ?_
  rintro e w2 ⟨rfl, hb2⟩
  have HB2 := Hid.mk (bl2 HB1.out hb2)
  have HY2 := Hid.mk (isBytes_below HY1.out hb2)
  clear hb2 HB1 HY1
  go_wp2_with fail
  refine (HPO.out _ HB2.out).mono ?_
  rintro e w6 ⟨gw, cw, nw, rfl, hnw, -, hpw, hb6⟩
  rw [← HNP.out] at hnw
  subst hnw
  have HB6 := Hid.mk (bl2 HB2.out hb6)
  have HEQ := Hid.mk (equal_is (isBytes_below HY2.out hb6) (isBytes_below HD.out HB6.out))
  clear hpw hb6 HB2 HY2 HPO
  go_wp2_with fail
  refine HEQ.out.mono ?_
  rintro e w7 ⟨rfl, hb7⟩
  have HB7 := Hid.mk (bl2 HB6.out hb7)
  clear hb7 HB6 HEQ
  go_wp2_with fail
  go_ret
  exact ⟨by first | rfl | simp, HB7.out⟩
set_option maxHeartbeats 8000000 in
set_option maxRecDepth 100000 in
theorem psend_block (x : Addr) (len cap b : Nat) (l : List UInt8) (w : World) (hD : IsBytes w (some x) len cap l) (h1 : 1 ≤ len) (h3 : len ≤ 300) (hb : b ≤ 255) (hb1 : 1 ≤ b) (h7 : 7 < len) :
    Calls Try.prog 6 #[.slice (some x) len cap, .int .i64 (b : Int)] w fun e w' => e = .returned (.bool true) ∧ Below w.heap.size w w' := by
  have hl := Nat.le_trans hD.2.1 hD.2.2.1
  have HSD : Hid (Calls Try.prog 26 #[.slice (some x) len cap, .int .i64 (b : Int)] w fun e w' => ∃ o m c, e = .returned (.tuple #[.slice o m c, .int .i64 (pcN b (nxN len)), .int .i64 0]) ∧ IsBytes w' o m c l ∧ Below w.heap.size w w') := Hid.mk (send_ok x len cap b l w hD h1 h3 (by omega))
  have hPT := fun W => parted_any W
  have hBD := fun W => badData_any (some x) len cap W hl
  simp only [szP_yes h1 h3] at hBD
  have HPO := Hid.mk (fun W (h : Below w.heap.size w W) => partsOf_any x len cap l W (isBytes_below hD h) h1 h3)
  have HD := Hid.mk hD
  have hnx := nx_le len h3
  obtain ⟨NP, hNP⟩ : ∃ NP, NP = 1 + nxN len := ⟨_, rfl⟩
  obtain ⟨PC, hPC⟩ : ∃ PC, PC = pcN b (nxN len) := ⟨_, rfl⟩
  rw [← hPC] at HSD
  have HNP := Hid.mk hNP
  have hNPb : (NP : Int) ≤ 43 := by omega
  have hn0 : 1 ≤ nxN len := by unfold nxN; rw [if_neg (by omega)]; omega
  have e1 : ¬ ((NP : Int) ≤ 1) := by omega
  have e1' : (1 : Int) < (NP : Int) := by omega
  obtain ⟨N2, hN2⟩ : ∃ N2, N2 = NP - 2 := ⟨_, rfl⟩
  have hm2 : (NP : Int) - 2 = (N2 : Int) := by omega
  obtain ⟨DV, hDV⟩ : ∃ DV, DV = N2 / b := ⟨_, rfl⟩
  obtain ⟨BI, hBI⟩ : ∃ BI : Int, BI = (b : Int) := ⟨_, rfl⟩
  have hd0 : (N2 : Int).tdiv BI = (DV : Int) := by rw [hBI, Int.tdiv_eq_ediv_of_nonneg (by omega), hDV]; simp
  have hDl : DV ≤ N2 := by rw [hDV]; exact Nat.div_le_self _ _
  have hd1 : IntKind.i64.wrap ((N2 : Int).tdiv BI) = (DV : Int) := by rw [hd0, IntKind.wrap_i64]; omega
  obtain ⟨P1, hP1⟩ : ∃ P1, P1 = NP + 1 := ⟨_, rfl⟩
  have hp1 : (NP : Int) + 1 = (P1 : Int) := by omega
  have e2 : (P1 : Int) + (DV : Int) = (PC : Int) := by
    rw [hPC]; unfold pcN; rw [if_neg (by omega), if_neg (by omega), show nxN len - 1 = N2 by omega, ← hDV]; omega
  have hPb : (PC : Int) ≤ 100 := by omega
  have hP1b : (P1 : Int) ≤ 44 := by omega
  have hDb : (DV : Int) ≤ 43 := by omega
  have hN2b : (N2 : Int) ≤ 43 := by omega
  rw [← hBI] at HSD ⊢
  have hB0 : ¬ BI = 0 := by omega
  have hB1 : (0 : Int) < BI := by omega
  have h0' : ¬ (BI < 0) := by omega
  have h5' : ¬ ((255 : Int) < BI) := by omega
  have hB5 : BI ≤ 255 := by omega
  clear hn0 hN2 hDV hBI hDl hP1
  clear hD hl hPC hNP hnx
  go_enter Try.func6, Try.ntmps6
  go_wp2_with fail
  refine HSD.out.mono ?_
  rintro e w1 ⟨o, m, c, rfl, hY, hb1⟩
  have HB1 := Hid.mk hb1
  have HY1 := Hid.mk hY
  clear hb1 hY HSD
  go_wp2_with fail
  refine (hBD _).mono ?_
  rintro e w2 ⟨rfl, hw2⟩
  rw [hw2]
  clear hw2 hBD
  go_wp2_with fail
  refine (hPT _).mono ?_
  rintro e w2 ⟨rfl, hb2⟩
  have HB2 := Hid.mk (bl2 HB1.out hb2)
  have HY2 := Hid.mk (isBytes_below HY1.out hb2)
  clear hb2 HB1 HY1
  go_wp2_with fail
  refine (HPO.out _ HB2.out).mono ?_
  rintro e w6 ⟨gw, cw, nw, rfl, hnw, -, hpw, hb6⟩
  rw [← HNP.out] at hnw
  subst hnw
  have HB6 := Hid.mk (bl2 HB2.out hb6)
  have HEQ := Hid.mk (equal_is (isBytes_below HY2.out hb6) (isBytes_below HD.out HB6.out))
  clear hpw hb6 HB2 HY2 HPO
  go_wp2_with fail
  refine HEQ.out.mono ?_
  rintro e w7 ⟨rfl, hb7⟩
  have HB7 := Hid.mk (bl2 HB6.out hb7)
  clear hb7 HB6 HEQ
  go_wp2_with fail
  go_ret
  exact ⟨by first | rfl | simp, HB7.out⟩
theorem psend_any (a : Option Addr) (len cap : Nat) (l : List UInt8) (block : Int) (w : World) (hD : IsBytes w a len cap l) :
    Calls Try.prog 6 #[.slice a len cap, .int .i64 block] w fun e w' => e = .returned (.bool true) ∧ Below w.heap.size w w' := by
  cases hi : inP block 0 255 with
  | false =>
    by_cases h : block < 0
    · exact psend_low a len cap block w hi h
    · exact psend_high a len cap block w hi (by
        by_cases h5 : 255 < block
        · exact h5
        · rw [inP_yes ⟨by omega, by omega⟩] at hi; cases hi)
  | true =>
    have hb := inP_iff.1 hi
    by_cases hE : szP len = 0
    · have hn := szP_ok hE
      obtain ⟨b, rfl⟩ : ∃ b : Nat, block = (b : Int) := ⟨block.toNat, by omega⟩
      cases a with
      | none => have := hD.2.2.2.1 rfl; omega
      | some x =>
        by_cases h7 : len ≤ 7
        · exact psend_one x len cap b l w hD hn.1 hn.2 (by omega) h7
        · by_cases h0 : b = 0
          · subst h0
            exact psend_free x len cap l w hD hn.1 hn.2 (by omega)
          · exact psend_block x len cap b l w hD hn.1 hn.2 (by omega) (by omega) (by omega)
    · exact psend_bad a len cap block w hb (Nat.le_trans hD.2.1 hD.2.2.1) hE
end Bw
end Go.Proofs.Ytljigcmhkjbhjaa
