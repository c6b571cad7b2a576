/- What PartTold answers: true. -/
import Derived.Test.YtgjnfmbmndnihaaRows
import Derived.Test.YtgjnfmbmndnihaaPtToldLawA
import Derived.Test.YtgjnfmbmndnihaaPtToldLawB
import Derived.Test.YtgjnfmbmndnihaaPtToldLawC
import Derived.Test.YtgjnfmbmndnihaaPtToldLawD
import Derived.Test.YtgjnfmbmndnihaaPtToldLawE
import Derived.Test.YtgjnfmbmndnihaaPtToldLawF
import Derived.Test.YtgjnfmbmndnihaaPtOpen
namespace Go.Proofs.Ytgjnfmbmndnihaa
open Go.ChangeShapes Go.WideShapes Go.ChangeAt Go.RowKit
namespace Bw
open Bm
theorem sdE_ok {n : Nat} {k next left : Int} {done : Bool} (h : sdE n k next left done = 0) : n ≤ 300 ∧ 1 ≤ n ∧ (0 ≤ k ∧ k ≤ n) ∧ (-1 ≤ left ∧ left ≤ 255) ∧ (0 ≤ next ∧ next ≤ 15) ∧ sdF n k.toNat next left done = true := by
  unfold sdE at h
  by_cases h1 : 300 < n
  · rw [if_pos h1] at h; omega
  rw [if_neg h1] at h
  by_cases h2 : n = 0
  · rw [if_pos h2] at h; omega
  rw [if_neg h2] at h
  by_cases h3 : inP k 0 n = false
  · rw [if_pos h3] at h; omega
  rw [if_neg h3] at h
  by_cases h4 : inP left (-1) 255 = false
  · rw [if_pos h4] at h; omega
  rw [if_neg h4] at h
  by_cases h5 : inP next 0 15 = false
  · rw [if_pos h5] at h; omega
  rw [if_neg h5] at h
  by_cases h6 : sdF n k.toNat next left done = true
  · exact ⟨by omega, by omega, inP_iff.1 (by simpa using h3), inP_iff.1 (by simpa using h4), inP_iff.1 (by simpa using h5), h6⟩
  · rw [if_neg h6] at h; omega
theorem sdF_mid {n k : Nat} {next left : Int} (h : sdF n k next left false = true) : k ≠ n ∧ 7 < n ∧ 6 ≤ k ∧ (k - 6) % 7 = 0 := by
  unfold sdF btw at h
  by_cases hk : k = n
  · rw [if_pos hk] at h; simp at h
  · rw [if_neg hk] at h
    simp at h
    exact ⟨hk, h.1.1, h.1.2.1, h.1.2.2⟩
theorem ptold_done (a : Option Addr) (n cap : Nat) (k next left : Int) (b : Option Addr) (m mc : Nat) (l p : List UInt8) (w : World) (hD : IsBytes w a n cap l) (hP : IsBytes w b m mc p) (hE : sdE n k next left true = 0) :
    Calls Try.prog 4 #[sdV a n cap k next left true, .slice b m mc] w fun e w' => e = .returned (.bool true) ∧ Below w.heap.size w w' := by
  by_cases h3 : m = 3
  · subst h3
    obtain ⟨y, rfl⟩ : ∃ y, b = some y := by
      cases b with
      | none => have := hP.2.2.2.1 rfl; omega
      | some x => exact ⟨x, rfl⟩
    have hy := hP.2.2.2.2 y rfl 0 (by omega)
    rw [add0P] at hy
    have hc0 := UInt8.toNat_lt (p.getD 0 0)
    by_cases hlo : (p.getD 0 0).toNat < 48
    · exact ptold_done_low a n cap k next left y mc l p w hD hP hE _ hc0 hy hlo
    · by_cases hhi : 50 < (p.getD 0 0).toNat
      · exact ptold_done_high a n cap k next left y mc l p w hD hP hE _ hc0 hy hhi
      · exact ptold_done_late a n cap k next left y mc l p w hD hP hE _ hc0 hy ⟨by omega, by omega⟩
  · exact ptold_done_len a n cap k next left b m mc l p w hD hP hE h3
theorem ptold_last (x : Addr) (n cap kk nx j : Nat) (left : Int) (b : Option Addr) (m mc : Nat) (l p : List UInt8) (w : World) (hD : IsBytes w (some x) n cap l) (hP : IsBytes w b m mc p) (hE : sdE n (kk : Int) (nx : Int) left false = 0) (h7 : 7 < n) (hn3 : n ≤ 300) (hkk : kk = 6 + 7 * j) (hkn : kk < n) (hnx : nx < 16) (hl0 : 0 ≤ left) (hl1 : left ≤ 255) (hla : n ≤ kk + 7) :
    Calls Try.prog 4 #[sdV (some x) n cap (kk : Int) (nx : Int) left false, .slice b m mc] w fun e w' => e = .returned (.bool true) ∧ Below w.heap.size w w' := by
  by_cases h3 : m = 3
  · subst h3
    obtain ⟨y, rfl⟩ : ∃ y, b = some y := by
      cases b with
      | none => have := hP.2.2.2.1 rfl; omega
      | some x => exact ⟨x, rfl⟩
    have hy := hP.2.2.2.2 y rfl 0 (by omega)
    rw [add0P] at hy
    have hc0 := UInt8.toNat_lt (p.getD 0 0)
    by_cases hlo : (p.getD 0 0).toNat < 48
    · exact ptold_last_low x n cap kk nx j left y mc l p w hD hP hE (by omega) _ hc0 hy hlo h7 hn3 hkk hkn hnx hl0 hl1 hla
    · by_cases hhi : 50 < (p.getD 0 0).toNat
      · exact ptold_last_high x n cap kk nx j left y mc l p w hD hP hE (by omega) _ hc0 hy hhi h7 hn3 hkk hkn hnx hl0 hl1 hla
      · exact ptold_last_late x n cap kk nx j left y mc l p w hD hP hE (by omega) _ hc0 hy ⟨by omega, by omega⟩ h7 hn3 hkk hkn hnx hl0 hl1 hla
  · exact ptold_last_len x n cap kk nx j left b m mc l p w hD hP hE (by omega) h3 h7 hn3 hkk hkn hnx hl0 hl1 hla
theorem ptold_free (x : Addr) (n cap kk nx j : Nat) (b : Option Addr) (m mc : Nat) (l p : List UInt8) (w : World) (hD : IsBytes w (some x) n cap l) (hP : IsBytes w b m mc p) (hE : sdE n (kk : Int) (nx : Int) 0 false = 0) (h7 : 7 < n) (hn3 : n ≤ 300) (hkk : kk = 6 + 7 * j) (hkn : kk < n) (hnx : nx < 16) (hla : kk + 7 < n) :
    Calls Try.prog 4 #[sdV (some x) n cap (kk : Int) (nx : Int) 0 false, .slice b m mc] w fun e w' => e = .returned (.bool true) ∧ Below w.heap.size w w' := by
  by_cases h3 : m = 3
  · subst h3
    obtain ⟨y, rfl⟩ : ∃ y, b = some y := by
      cases b with
      | none => have := hP.2.2.2.1 rfl; omega
      | some x => exact ⟨x, rfl⟩
    have hy := hP.2.2.2.2 y rfl 0 (by omega)
    rw [add0P] at hy
    have hc0 := UInt8.toNat_lt (p.getD 0 0)
    by_cases hlo : (p.getD 0 0).toNat < 48
    · exact ptold_free_low x n cap kk nx j y mc l p w hD hP hE (by omega) _ hc0 hy hlo h7 hn3 hkk hkn hnx hla
    · by_cases hhi : 50 < (p.getD 0 0).toNat
      · exact ptold_free_high x n cap kk nx j y mc l p w hD hP hE (by omega) _ hc0 hy hhi h7 hn3 hkk hkn hnx hla
      · exact ptold_free_late x n cap kk nx j y mc l p w hD hP hE (by omega) _ hc0 hy ⟨by omega, by omega⟩ h7 hn3 hkk hkn hnx hla
  · exact ptold_free_len x n cap kk nx j b m mc l p w hD hP hE (by omega) h3 h7 hn3 hkk hkn hnx hla
theorem ptold_one (x : Addr) (n cap kk nx j : Nat) (b : Option Addr) (m mc : Nat) (l p : List UInt8) (w : World) (hD : IsBytes w (some x) n cap l) (hP : IsBytes w b m mc p) (hE : sdE n (kk : Int) (nx : Int) 1 false = 0) (h7 : 7 < n) (hn3 : n ≤ 300) (hkk : kk = 6 + 7 * j) (hkn : kk < n) (hnx : nx < 16) (hla : kk + 7 < n) :
    Calls Try.prog 4 #[sdV (some x) n cap (kk : Int) (nx : Int) 1 false, .slice b m mc] w fun e w' => e = .returned (.bool true) ∧ Below w.heap.size w w' := by
  by_cases h3 : m = 3
  · subst h3
    obtain ⟨y, rfl⟩ : ∃ y, b = some y := by
      cases b with
      | none => have := hP.2.2.2.1 rfl; omega
      | some x => exact ⟨x, rfl⟩
    have hy := hP.2.2.2.2 y rfl 0 (by omega)
    rw [add0P] at hy
    have hc0 := UInt8.toNat_lt (p.getD 0 0)
    by_cases hlo : (p.getD 0 0).toNat < 48
    · exact ptold_one_low x n cap kk nx j y mc l p w hD hP hE (by omega) _ hc0 hy hlo h7 hn3 hkk hkn hnx hla
    · by_cases hhi : 50 < (p.getD 0 0).toNat
      · exact ptold_one_high x n cap kk nx j y mc l p w hD hP hE (by omega) _ hc0 hy hhi h7 hn3 hkk hkn hnx hla
      · exact ptold_one_late x n cap kk nx j y mc l p w hD hP hE (by omega) _ hc0 hy ⟨by omega, by omega⟩ h7 hn3 hkk hkn hnx hla
  · exact ptold_one_len x n cap kk nx j b m mc l p w hD hP hE (by omega) h3 h7 hn3 hkk hkn hnx hla
theorem ptold_more (x : Addr) (n cap kk nx j : Nat) (left : Int) (b : Option Addr) (m mc : Nat) (l p : List UInt8) (w : World) (hD : IsBytes w (some x) n cap l) (hP : IsBytes w b m mc p) (hE : sdE n (kk : Int) (nx : Int) left false = 0) (h7 : 7 < n) (hn3 : n ≤ 300) (hkk : kk = 6 + 7 * j) (hkn : kk < n) (hnx : nx < 16) (hl2 : 2 ≤ left) (hl1 : left ≤ 255) (hla : kk + 7 < n) :
    Calls Try.prog 4 #[sdV (some x) n cap (kk : Int) (nx : Int) left false, .slice b m mc] w fun e w' => e = .returned (.bool true) ∧ Below w.heap.size w w' := by
  by_cases h3 : m = 3
  · subst h3
    obtain ⟨y, rfl⟩ : ∃ y, b = some y := by
      cases b with
      | none => have := hP.2.2.2.1 rfl; omega
      | some x => exact ⟨x, rfl⟩
    have hy := hP.2.2.2.2 y rfl 0 (by omega)
    rw [add0P] at hy
    have hc0 := UInt8.toNat_lt (p.getD 0 0)
    by_cases hlo : (p.getD 0 0).toNat < 48
    · exact ptold_more_low x n cap kk nx j left y mc l p w hD hP hE (by omega) _ hc0 hy hlo h7 hn3 hkk hkn hnx hl2 hl1 hla
    · by_cases hhi : 50 < (p.getD 0 0).toNat
      · exact ptold_more_high x n cap kk nx j left y mc l p w hD hP hE (by omega) _ hc0 hy hhi h7 hn3 hkk hkn hnx hl2 hl1 hla
      · exact ptold_more_late x n cap kk nx j left y mc l p w hD hP hE (by omega) _ hc0 hy ⟨by omega, by omega⟩ h7 hn3 hkk hkn hnx hl2 hl1 hla
  · exact ptold_more_len x n cap kk nx j left b m mc l p w hD hP hE (by omega) h3 h7 hn3 hkk hkn hnx hl2 hl1 hla
theorem ptold_idle (x : Addr) (n cap : Nat) (k next : Int) (b : Option Addr) (m mc : Nat) (l p : List UInt8) (w : World) (hD : IsBytes w (some x) n cap l) (hP : IsBytes w b m mc p) (hE : sdE n k next (-1) false = 0) (hn1 : 1 ≤ n) (hn3 : n ≤ 300) :
    Calls Try.prog 4 #[sdV (some x) n cap k next (-1) false, .slice b m mc] w fun e w' => e = .returned (.bool true) ∧ Below w.heap.size w w' := by
  by_cases h3 : m = 3
  · subst h3
    obtain ⟨y, rfl⟩ : ∃ y, b = some y := by
      cases b with
      | none => have := hP.2.2.2.1 rfl; omega
      | some x => exact ⟨x, rfl⟩
    have hy := hP.2.2.2.2 y rfl 0 (by omega)
    rw [add0P] at hy
    have hc0 := UInt8.toNat_lt (p.getD 0 0)
    by_cases hlo : (p.getD 0 0).toNat < 48
    · exact ptold_idle_low (some x) n cap k next y mc l p w hD hP hE _ hc0 hy hlo
    · by_cases hhi : 50 < (p.getD 0 0).toNat
      · exact ptold_idle_high (some x) n cap k next y mc l p w hD hP hE _ hc0 hy hhi
      · have hz : (p.getD 0 0).toNat = 48 ∨ (p.getD 0 0).toNat = 49 ∨ (p.getD 0 0).toNat = 50 := by omega
        rcases hz with hz | hz | hz
        · rw [hz] at hy
          have hy1 := hP.2.2.2.2 y rfl 1 (by omega)
          rw [add1P] at hy1
          exact ptold_idle_go x n cap k next y mc l p w hD hP hE hn1 hn3 hy _ (UInt8.toNat_lt (p.getD 1 0)) hy1
        · rw [hz] at hy
          exact ptold_idle_wait x n cap k next y mc l p w hD hP hE hn1 hn3 hy
        · rw [hz] at hy
          exact ptold_idle_full (some x) n cap k next y mc l p w hD hP hE hy
  · exact ptold_idle_len (some x) n cap k next b m mc l p w hD hP hE h3
theorem ptold_any (a : Option Addr) (n cap : Nat) (k next left : Int) (done : Bool) (b : Option Addr) (m mc : Nat) (l p : List UInt8) (w : World) (hD : IsBytes w a n cap l) (hP : IsBytes w b m mc p) :
    Calls Try.prog 4 #[sdV a n cap k next left done, .slice b m mc] w fun e w' => e = .returned (.bool true) ∧ Below w.heap.size w w' := by
  by_cases hE : sdE n k next left done = 0
  · obtain ⟨hn3, hn1, hk, hl, hx, hF⟩ := sdE_ok hE
    cases done with
    | true => exact ptold_done a n cap k next left b m mc l p w hD hP hE
    | false =>
      obtain ⟨x, rfl⟩ : ∃ x, a = some x := by
        cases a with
        | none => have := hD.2.2.2.1 rfl; omega
        | some x => exact ⟨x, rfl⟩
      by_cases hm1 : left = -1
      · subst hm1
        exact ptold_idle x n cap k next b m mc l p w hD hP hE hn1 hn3
      · obtain ⟨kk, rfl⟩ : ∃ kk : Nat, k = (kk : Int) := ⟨k.toNat, by omega⟩
        obtain ⟨nx, rfl⟩ : ∃ nx : Nat, next = (nx : Int) := ⟨next.toNat, by omega⟩
        rw [Int.toNat_natCast] at hF
        obtain ⟨hkn, h7, h6, hq⟩ := sdF_mid hF
        have hkk : kk = 6 + 7 * ((kk - 6) / 7) := by omega
        by_cases hla : n ≤ kk + 7
        · exact ptold_last x n cap kk nx _ left b m mc l p w hD hP hE h7 hn3 hkk (by omega) (by omega) (by omega) (by omega) hla
        · by_cases h0 : left = 0
          · subst h0
            exact ptold_free x n cap kk nx _ b m mc l p w hD hP hE h7 hn3 hkk (by omega) (by omega) (by omega)
          · by_cases h1 : left = 1
            · subst h1
              exact ptold_one x n cap kk nx _ b m mc l p w hD hP hE h7 hn3 hkk (by omega) (by omega) (by omega)
            · exact ptold_more x n cap kk nx _ left b m mc l p w hD hP hE h7 hn3 hkk (by omega) (by omega) (by omega) (by omega) (by omega)
  · exact ptold_bad a n cap k next left done b m mc l p w hD hP hE
end Bw
namespace partTold
open Bw
theorem walk (k next left : Int) (done : Bool) (a : Option Addr) (n cap : Nat) (zs : List Int) (b : Option Addr) (m mc : Nat) (ys : List Int) (w : World) (hG : IsRow .u8 w a n cap zs) (hD : IsRow .u8 w b m mc ys) :
    Calls Try.prog 4 #[sdV a n cap k next left done, .slice b m mc] w fun e w' => e = .returned (.bool true) ∧ Below w.heap.size w w' := by
  obtain ⟨dt, hdt⟩ := isBytes_of_row hG
  obtain ⟨l, hl⟩ := isBytes_of_row hD
  exact ptold_any a n cap k next left done b m mc dt l w hdt hl
end partTold
end Go.Proofs.Ytgjnfmbmndnihaa
