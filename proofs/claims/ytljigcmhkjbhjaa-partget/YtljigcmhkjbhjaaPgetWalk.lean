/- What PartGet answers: true. -/
import Derived.Test.YtljigcmhkjbhjaaRows
import Derived.Test.YtljigcmhkjbhjaaPtGetLawA
import Derived.Test.YtljigcmhkjbhjaaPtGetLawB
import Derived.Test.YtljigcmhkjbhjaaPtGetLawC
import Derived.Test.YtljigcmhkjbhjaaPtGetLawD
import Derived.Test.YtljigcmhkjbhjaaPtGetLawE
import Derived.Test.YtljigcmhkjbhjaaPtGetLawF
import Derived.Test.YtljigcmhkjbhjaaPtOpen
namespace Go.Proofs.Ytljigcmhkjbhjaa
open Go.ChangeShapes Go.WideShapes Go.ChangeAt Go.RowKit
namespace Bw
open Bm
theorem pget_any (want : Int) (a : Option Addr) (n cap : Nat) (next block left : Int) (b : Option Addr) (m mc : Nat) (dt p : List UInt8) (w : World) (hG : IsBytes w a n cap dt) (hP : IsBytes w b m mc p) :
    Calls Try.prog 5 #[gtV want a n cap next block left, .slice b m mc] w fun e w' => e = .returned (.bool true) ∧ Below w.heap.size w w' := by
  have hdl := hG.1
  have hpl := hP.1
  have hmc := hP.2.1
  by_cases hE : gtE n want next block left = 0
  · by_cases h0 : m = 0
    · exact pget_short want a n cap next block left b m mc dt p w hG hP (by unfold getX; rw [hdl, hpl, if_neg (by rw [hE]; simp), if_pos h0]) hE h0
    · by_cases h8 : 8 < m
      · exact pget_many want a n cap next block left b m mc dt p w hG hP (by unfold getX; rw [hdl, hpl, if_neg (by rw [hE]; simp), if_neg h0, if_pos h8]) hE h8
      · obtain ⟨y, rfl⟩ : ∃ y, b = some y := by
          cases b with
          | none => have := hP.2.2.2.1 rfl; omega
          | some x => exact ⟨x, rfl⟩
        have hXX : getX want next block left dt p = if (p.getD 0 0).toNat / 16 = 0 then oneX block p else if (p.getD 0 0).toNat / 16 = 1 then firstX block p else if (p.getD 0 0).toNat / 16 = 2 then nextX want next block left dt p else badX 8 := by
          unfold getX
          rw [hdl, hpl, if_neg (by rw [hE]; simp), if_neg h0, if_neg h8]
        have hy := hP.2.2.2.2 y rfl 0 (by omega)
        rw [add0P] at hy
        have hc := UInt8.toNat_lt (p.getD 0 0)
        have hbl := (gtE_ok hE).1.2.1
        have hlf := (gtE_ok hE).1.2.2.1
        by_cases k0 : (p.getD 0 0).toNat < 16
        · rw [if_pos (by omega)] at hXX
          unfold oneX at hXX
          rw [hpl] at hXX
          by_cases hz : (p.getD 0 0).toNat = 0
          · rw [if_neg (by omega)] at hXX
            by_cases hm1 : mc = 1
            · exact pget_one_zeroA want a n cap next block left y m mc dt p w hG hP hXX hE _ hc (by omega) (by omega) hy hm1 hz
            · exact pget_one_zeroB want a n cap next block left y m mc dt p w hG hP hXX hE _ hc (by omega) (by omega) hy (by omega) hz
          · by_cases hb7 : 7 < (p.getD 0 0).toNat
            · rw [if_neg (by omega)] at hXX
              by_cases hm1 : mc = 1
              · exact pget_one_bigA want a n cap next block left y m mc dt p w hG hP hXX hE _ hc (by omega) (by omega) hy hm1 ⟨hb7, k0⟩
              · exact pget_one_bigB want a n cap next block left y m mc dt p w hG hP hXX hE _ hc (by omega) (by omega) hy (by omega) ⟨hb7, k0⟩
            · by_cases hs : m = (p.getD 0 0).toNat + 1
              · rw [if_pos (by omega)] at hXX
                exact pget_one_ok want a n cap next block left y m mc dt p w hG hP hXX hE _ hc (by omega) (by omega) hy ⟨by omega, by omega⟩ hs
              · rw [if_neg (by omega)] at hXX
                by_cases hm1 : mc = 1
                · exact pget_one_lenA want a n cap next block left y m mc dt p w hG hP hXX hE _ hc (by omega) (by omega) hy hm1 ⟨by omega, by omega⟩ hs
                · exact pget_one_lenB want a n cap next block left y m mc dt p w hG hP hXX hE _ hc (by omega) (by omega) hy (by omega) ⟨by omega, by omega⟩ hs
        · by_cases k1 : (p.getD 0 0).toNat < 32
          · rw [if_neg (by omega), if_pos (by omega)] at hXX
            unfold firstX at hXX
            rw [hpl] at hXX
            by_cases hm1 : m = 1
            · rw [if_pos (by omega)] at hXX
              exact pget_first_one want a n cap next block left y m mc dt p w hG hP hXX hE _ hc (by omega) (by omega) hy ⟨by omega, k1⟩ hm1
            · have hy1 := hP.2.2.2.2 y rfl 1 (by omega)
              rw [add1P] at hy1
              have hc1 := UInt8.toNat_lt (p.getD 1 0)
              by_cases hm8 : m = 8
              · rw [if_neg (by omega)] at hXX
                have hSN : saysN p = ((p.getD 0 0).toNat - 16) * 256 + (p.getD 1 0).toNat := by
                  unfold saysN
                  rw [show (p.getD 0 0).toNat % 16 = (p.getD 0 0).toNat - 16 by omega]
                by_cases hs7 : saysN p ≤ 7
                · rw [if_pos hs7] at hXX
                  exact pget_first_few want a n cap next block left y m mc dt p w hG hP hXX hE _ hc (by omega) (by omega) hy _ hc1 hy1 ⟨by omega, k1⟩ hm8 (by omega)
                · rw [if_neg hs7] at hXX
                  by_cases hs3 : 300 < saysN p
                  · rw [if_pos hs3] at hXX
                    exact pget_first_full want a n cap next block left y m mc dt p w hG hP hXX hE _ hc (by omega) (by omega) hy _ hc1 hy1 ⟨by omega, k1⟩ hm8 (by omega)
                  · rw [if_neg hs3] at hXX
                    obtain ⟨bl, rfl⟩ : ∃ bl : Nat, block = (bl : Int) := ⟨block.toNat, by omega⟩
                    rw [Int.toNat_natCast] at hXX
                    exact pget_first_ok want a n cap next bl left y m mc dt p w hG hP (saysN p) hXX hE _ hc (by omega) (by omega) hy _ hc1 hy1 ⟨by omega, k1⟩ hm8 hSN (by omega) (by omega)
              · rw [if_pos (by omega)] at hXX
                exact pget_first_len want a n cap next block left y m mc dt p w hG hP hXX hE _ hc (by omega) (by omega) hy _ hc1 hy1 ⟨by omega, k1⟩ (by omega) hm8
          · by_cases k2 : (p.getD 0 0).toNat < 48
            · rw [if_neg (by omega), if_neg (by omega), if_pos (by omega)] at hXX
              unfold nextX at hXX
              rw [hpl, hdl, show (p.getD 0 0).toNat % 16 = (p.getD 0 0).toNat - 32 by omega] at hXX
              by_cases hw : want = 0
              · subst hw
                rw [if_pos rfl] at hXX
                exact pget_late a n cap next block left y m mc dt p w hG hP hXX hE _ hc (by omega) (by omega) hy ⟨by omega, k2⟩
              · rw [if_neg hw] at hXX
                by_cases hx : next = (((p.getD 0 0).toNat - 32 : Nat) : Int)
                · rw [if_neg (by simpa using hx)] at hXX
                  by_cases hf : m = 1 + min (want.toNat - n) 7
                  · rw [if_neg (by simpa using hf)] at hXX
                    obtain ⟨h8w, hnw, hbt, -, hlb⟩ := gtF_more (gtE_ok hE).2 hw
                    have h6 : 6 ≤ n := by unfold btw at hbt; simp at hbt; exact hbt.1
                    obtain ⟨x, rfl⟩ : ∃ x, a = some x := by
                      cases a with
                      | none => have := hG.2.2.2.1 rfl; omega
                      | some x => exact ⟨x, rfl⟩
                    obtain ⟨wt, rfl⟩ : ∃ wt : Nat, want = (wt : Int) := ⟨want.toNat, by omega⟩
                    rw [Int.toNat_natCast] at hf hXX
                    subst hx
                    by_cases hwh : n + (m - 1) = wt
                    · rw [if_pos hwh] at hXX
                      exact pget_whole wt x n cap _ block left y m mc dt p w hG hP hXX hE _ hc (by omega) (by omega) hy ⟨by omega, k2⟩ rfl (by omega) hf hwh
                    · rw [if_neg hwh] at hXX
                      by_cases hb0 : block = 0
                      · subst hb0
                        rw [if_pos rfl, if_pos rfl] at hXX
                        exact pget_free wt x n cap _ left y m mc dt p w hG hP hXX hE _ hc (by omega) (by omega) hy ⟨by omega, k2⟩ rfl (by omega) hf hwh
                      · rw [if_neg hb0, if_neg hb0] at hXX
                        by_cases hl1 : left = 1
                        · subst hl1
                          rw [if_pos rfl, if_pos rfl] at hXX
                          obtain ⟨bl, rfl⟩ : ∃ bl : Nat, block = (bl : Int) := ⟨block.toNat, by omega⟩
                          rw [Int.toNat_natCast] at hXX
                          exact pget_flow wt x n cap _ bl y m mc dt p w hG hP hXX hE _ hc (by omega) (by omega) hy ⟨by omega, k2⟩ rfl (by omega) hf (by omega) hwh
                        · rw [if_neg hl1, if_neg hl1] at hXX
                          exact pget_left wt x n cap _ block left y m mc dt p w hG hP hXX hE _ hc (by omega) (by omega) hy ⟨by omega, k2⟩ rfl (by omega) hf hb0 (by omega) hwh
                  · rw [if_pos hf] at hXX
                    exact pget_form want a n cap next block left y m mc dt p w hG hP hXX hE _ hc (by omega) (by omega) hy ⟨by omega, k2⟩ hw hx hf
                · rw [if_pos hx] at hXX
                  exact pget_lost want a n cap next block left y m mc dt p w hG hP hXX hE _ hc (by omega) (by omega) hy ⟨by omega, k2⟩ hw hx
            · rw [if_neg (by omega), if_neg (by omega), if_neg (by omega)] at hXX
              exact pget_who want a n cap next block left y m mc dt p w hG hP hXX hE _ hc (by omega) (by omega) hy (by omega)
  · exact pget_bad want a n cap next block left b m mc dt p w hG hP (by unfold getX; rw [hdl, if_pos hE]) hE
end Bw
namespace partGet
open Bw
theorem walk (want next block left : Int) (a : Option Addr) (n cap : Nat) (zs : List Int) (b : Option Addr) (m mc : Nat) (ys : List Int) (w : World) (hG : IsRow .u8 w a n cap zs) (hD : IsRow .u8 w b m mc ys) :
    Calls Try.prog 5 #[gtV want a n cap next block left, .slice b m mc] w fun e w' => e = .returned (.bool true) ∧ Below w.heap.size w w' := by
  obtain ⟨dt, hdt⟩ := isBytes_of_row hG
  obtain ⟨l, hl⟩ := isBytes_of_row hD
  exact pget_any want a n cap next block left b m mc dt l w hdt hl
end partGet
end Go.Proofs.Ytljigcmhkjbhjaa
