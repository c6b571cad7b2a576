/- What package part's Get answers, of anything. -/
import Derived.Test.YtgjnfmbmndnihaaPtGet
namespace Go.Proofs.Ytgjnfmbmndnihaa
open Go.ChangeShapes Go.WideShapes Go.ChangeAt Go.RowKit
namespace Bw
open Bm
theorem gtE_ok {n : Nat} {want next block left : Int} (h : gtE n want next block left = 0) : ((0 ≤ want ∧ want ≤ 300) ∧ (0 ≤ block ∧ block ≤ 255) ∧ (0 ≤ left ∧ left ≤ block) ∧ (0 ≤ next ∧ next ≤ 15)) ∧ gtF n want next block left = true := by
  unfold gtE at h
  cases i1 : inP want 0 300 with
  | false => rw [i1] at h; simp at h
  | true =>
    cases i2 : inP block 0 255 with
    | false => rw [i1, i2] at h; simp at h
    | true =>
      cases i3 : inP left 0 block with
      | false => rw [i1, i2, i3] at h; simp at h
      | true =>
        cases i4 : inP next 0 15 with
        | false => rw [i1, i2, i3, i4] at h; simp at h
        | true =>
          cases hf : gtF n want next block left with
          | false => rw [i1, i2, i3, i4, hf] at h; simp at h
          | true => exact ⟨⟨inP_iff.1 i1, inP_iff.1 i2, inP_iff.1 i3, inP_iff.1 i4⟩, rfl⟩
theorem gtE_yes {n : Nat} {want next block left : Int} (h1 : 0 ≤ want ∧ want ≤ 300) (h2 : 0 ≤ block ∧ block ≤ 255) (h3 : 0 ≤ left ∧ left ≤ block) (h4 : 0 ≤ next ∧ next ≤ 15) (hf : gtF n want next block left = true) : gtE n want next block left = 0 := by
  unfold gtE
  rw [inP_yes h1, inP_yes h2, inP_yes h3, inP_yes h4, hf]
  simp
theorem gtF_zero {n : Nat} {next block left : Int} (h : gtF n 0 next block left = true) : n = 0 ∧ next = 0 ∧ left = 0 := by
  unfold gtF at h
  simp at h
  exact ⟨h.1.1, h.1.2, h.2⟩
theorem gtF_more {n : Nat} {want next block left : Int} (h : gtF n want next block left = true) (h0 : want ≠ 0) : 8 ≤ want ∧ (n : Int) < want ∧ btw n = true ∧ next = (numN n : Int) ∧ (left ≠ 0 ∨ block = 0) := by
  unfold gtF at h
  rw [if_neg h0] at h
  by_cases h7 : want ≤ 7
  · rw [if_pos h7] at h; cases h
  · rw [if_neg h7] at h
    by_cases hn : want ≤ (n : Int)
    · rw [if_pos hn] at h; cases h
    · rw [if_neg hn] at h
      simp at h
      refine ⟨by omega, by omega, h.1.1, h.1.2, ?_⟩
      exact h.2
theorem one_any (want : Int) (a : Option Addr) (n cap : Nat) (next block left : Int) (y : Addr) (m mc : Nat) (p : List UInt8) (w : World) (hm : m ≤ 8) (hm1 : 1 ≤ m) (hP : IsBytes w (some y) m mc p) :
    Calls Try.prog 36 #[gtV want a n cap next block left, .slice (some y) m mc] w fun e w' => ∃ o1 n1 e1 o2 n2 e2, e = .returned (.tuple #[gtV (oneX block p).want o1 n1 e1 (oneX block p).next (oneX block p).block (oneX block p).left, .slice o2 n2 e2, .int .i64 (oneX block p).e]) ∧ FB w w' o1 n1 e1 (oneX block p).dt ∧ FB w w' o2 n2 e2 (oneX block p).whole ∧ ((oneX block p).whole = [] → o2 = none) ∧ Below w.heap.size w w' := by
  have hy := hP.2.2.2.2 y rfl 0 (by omega)
  rw [add0P] at hy
  have hc := UInt8.toNat_lt (p.getD 0 0)
  have hpl := hP.1
  unfold oneX
  by_cases h1 : 1 ≤ (p.getD 0 0).toNat % 16 ∧ (p.getD 0 0).toNat % 16 ≤ 7
  · by_cases h2 : (p.getD 0 0).toNat % 16 = p.length - 1
    · rw [if_pos ⟨h1.1, h1.2, h2⟩]
      refine (one_ok want a n cap next block left y m mc _ w hm hm1 hc hy p hP h1 (by omega)).mono ?_
      rintro e w' ⟨g, c, rfl, hf, hb⟩
      refine ⟨none, 0, 0, some ⟨g, 0, none⟩, m - 1, c, rfl, FB.nil _ _, hf, fun h => ?_, hb⟩
      have := congrArg List.length h
      simp at this
      omega
    · rw [if_neg (fun h => h2 h.2.2)]
      refine (one_size want a n cap next block left y m mc _ w hm hm1 hc hy h1 (by omega)).mono ?_
      rintro e w' ⟨rfl, hb⟩
      exact ⟨none, 0, 0, none, 0, 0, rfl, FB.nil _ _, FB.nil _ _, fun _ => rfl, hb⟩
  · rw [if_neg (fun h => h1 ⟨h.1, h.2.1⟩)]
    refine (one_range want a n cap next block left y m mc _ w hm hm1 hc hy h1).mono ?_
    rintro e w' ⟨rfl, hb⟩
    exact ⟨none, 0, 0, none, 0, 0, rfl, FB.nil _ _, FB.nil _ _, fun _ => rfl, hb⟩
theorem first_any (want : Int) (a : Option Addr) (n cap : Nat) (next block left : Int) (y : Addr) (m mc : Nat) (p : List UInt8) (w : World) (hm : m ≤ 8) (hm1 : 1 ≤ m) (hP : IsBytes w (some y) m mc p) (hbl : 0 ≤ block ∧ block ≤ 255) :
    Calls Try.prog 37 #[gtV want a n cap next block left, .slice (some y) m mc] w fun e w' => ∃ o1 n1 e1 o2 n2 e2, e = .returned (.tuple #[gtV (firstX block p).want o1 n1 e1 (firstX block p).next (firstX block p).block (firstX block p).left, .slice o2 n2 e2, .int .i64 (firstX block p).e]) ∧ FB w w' o1 n1 e1 (firstX block p).dt ∧ FB w w' o2 n2 e2 (firstX block p).ans ∧ Below w.heap.size w w' := by
  have hpl := hP.1
  unfold firstX
  by_cases h8 : p.length ≠ 8
  · rw [if_pos h8]
    refine (first_len want a n cap next block left y m mc w hm hm1 (by omega)).mono ?_
    rintro e w' ⟨rfl, hb⟩
    exact ⟨none, 0, 0, none, 0, 0, rfl, FB.nil _ _, FB.nil _ _, hb⟩
  · rw [if_neg h8]
    have hm' : m = 8 := by omega
    have hy0 := hP.2.2.2.2 y rfl 0 (by omega)
    rw [add0P] at hy0
    have hy1 := hP.2.2.2.2 y rfl 1 (by omega)
    rw [add1P] at hy1
    have hc0 := UInt8.toNat_lt (p.getD 0 0)
    have hc1 := UInt8.toNat_lt (p.getD 1 0)
    by_cases h7 : saysN p ≤ 7
    · rw [if_pos h7]
      refine (first_few want a n cap next block left y m mc w hm hm1 _ _ hc0 hc1 hy0 hy1 hm' (saysN p) rfl h7).mono ?_
      rintro e w' ⟨rfl, hb⟩
      exact ⟨none, 0, 0, none, 0, 0, rfl, FB.nil _ _, FB.nil _ _, hb⟩
    · rw [if_neg h7]
      by_cases h3 : 300 < saysN p
      · rw [if_pos h3]
        refine (first_full want a n cap next block left y m mc w hm hm1 _ _ hc0 hc1 hy0 hy1 hm' (saysN p) rfl h3).mono ?_
        rintro e w' ⟨g, c, rfl, hf, hb⟩
        exact ⟨none, 0, 0, some ⟨g, 0, none⟩, 3, c, rfl, FB.nil _ _, hf, hb⟩
      · rw [if_neg h3]
        refine (first_ok want a n cap next block left y m mc w hm hm1 _ _ hc0 hc1 hy0 hy1 hm' (saysN p) rfl (by omega) (by omega) block.toNat (by omega) (by omega) p hP).mono ?_
        rintro e w' ⟨gd, cd, g, c, rfl, hf1, hf2, hb⟩
        exact ⟨some ⟨gd, 0, none⟩, 6, cd, some ⟨g, 0, none⟩, 3, c, rfl, hf1, hf2, hb⟩
theorem nextp_any (want : Int) (a : Option Addr) (n cap : Nat) (next block left : Int) (y : Addr) (m mc : Nat) (dt p : List UInt8) (w : World) (hm : m ≤ 8) (hm1 : 1 ≤ m) (hD : IsBytes w a n cap dt) (hP : IsBytes w (some y) m mc p) (hE : gtE n want next block left = 0) :
    Calls Try.prog 38 #[gtV want a n cap next block left, .slice (some y) m mc] w fun e w' => ∃ o1 n1 e1 o2 n2 e2 o3 n3 e3, e = .returned (.tuple #[gtV (nextX want next block left dt p).want o1 n1 e1 (nextX want next block left dt p).next (nextX want next block left dt p).block (nextX want next block left dt p).left, .slice o2 n2 e2, .slice o3 n3 e3, .int .i64 (nextX want next block left dt p).e]) ∧ FB w w' o1 n1 e1 (nextX want next block left dt p).dt ∧ FB w w' o2 n2 e2 (nextX want next block left dt p).ans ∧ FB w w' o3 n3 e3 (nextX want next block left dt p).whole ∧ ((nextX want next block left dt p).whole = [] → o3 = none) ∧ Below w.heap.size w w' := by
  have hy := hP.2.2.2.2 y rfl 0 (by omega)
  rw [add0P] at hy
  have hc := UInt8.toNat_lt (p.getD 0 0)
  have hpl := hP.1
  have hdl := hD.1
  obtain ⟨⟨hw, hbl, hlf, hnx⟩, hF⟩ := gtE_ok hE
  unfold nextX
  by_cases h0 : want = 0
  · rw [if_pos h0]
    subst h0
    have hz := gtF_zero hF
    obtain ⟨rfl, rfl, rfl⟩ := hz
    refine (getn_late a cap 0 block 0 y m mc _ w hm hm1 hc hy).mono ?_
    rintro e w' ⟨rfl, hb⟩
    exact ⟨none, 0, 0, none, 0, 0, none, 0, 0, rfl, FB.nil _ _, FB.nil _ _, FB.nil _ _, fun _ => rfl, hb⟩
  · rw [if_neg h0]
    obtain ⟨h8, hn, hbt, hnum, hlb⟩ := gtF_more hF h0
    obtain ⟨wt, rfl⟩ : ∃ wt : Nat, want = (wt : Int) := ⟨want.toNat, by omega⟩
    have h6 : 6 ≤ n := by unfold btw at hbt; simp at hbt; exact hbt.1
    by_cases hx : next ≠ (((p.getD 0 0).toNat % 16 : Nat) : Int)
    · rw [if_pos hx]
      refine (getn_lost wt n cap a next block left y m mc _ w hm hm1 hc hy (by omega) (by omega) (by omega) hx).mono ?_
      rintro e w' ⟨rfl, hb⟩
      exact ⟨none, 0, 0, none, 0, 0, none, 0, 0, rfl, FB.nil _ _, FB.nil _ _, FB.nil _ _, fun _ => rfl, hb⟩
    · rw [if_neg hx]
      have hx' : next = (((p.getD 0 0).toNat % 16 : Nat) : Int) := Decidable.not_not.1 hx
      have htn : (wt : Int).toNat = wt := by simp
      rw [htn, hpl, hdl]
      by_cases hf : m ≠ 1 + min (wt - n) 7
      · rw [if_pos hf]
        refine (getn_form wt n cap a next block left y m mc _ w hm hm1 hc hy (by omega) (by omega) (by omega) hx' hf).mono ?_
        rintro e w' ⟨rfl, hb⟩
        exact ⟨none, 0, 0, none, 0, 0, none, 0, 0, rfl, FB.nil _ _, FB.nil _ _, FB.nil _ _, fun _ => rfl, hb⟩
      · rw [if_neg hf]
        have hf' : m = 1 + min (wt - n) 7 := Decidable.not_not.1 hf
        obtain ⟨x, rfl⟩ : ∃ x, a = some x := by
          cases a with
          | none => have := hD.2.2.2.1 rfl; omega
          | some x => exact ⟨x, rfl⟩
        by_cases hwh : n + (m - 1) = wt
        · rw [if_pos hwh]
          refine (getn_whole wt n cap (some x) next block left y m mc _ w hm hm1 hc hy (by omega) (by omega) (by omega) x dt p rfl hD hP hx' hf' hwh).mono ?_
          rintro e w' ⟨g, c, rfl, hfb, hb⟩
          refine ⟨none, 0, 0, none, 0, 0, some ⟨g, 0, none⟩, wt, c, rfl, FB.nil _ _, FB.nil _ _, hfb, fun h => ?_, hb⟩
          have := congrArg List.length h
          simp at this
          omega
        · rw [if_neg hwh]
          by_cases hb0 : block = 0
          · subst hb0
            refine (getn_free wt n cap (some x) next left y m mc _ w hm hm1 hc hy (by omega) (by omega) (by omega) x dt p rfl hD hP hx' hf' hwh).mono ?_
            rintro e w' ⟨g, c, rfl, hfb, hb⟩
            exact ⟨some ⟨g, 0, none⟩, n + (m - 1), c, none, 0, 0, none, 0, 0, rfl, hfb, FB.nil _ _, FB.nil _ _, fun _ => rfl, hb⟩
          · by_cases hl1 : left = 1
            · subst hl1
              obtain ⟨bl, rfl⟩ : ∃ bl : Nat, block = (bl : Int) := ⟨block.toNat, by omega⟩
              rw [if_neg hb0, if_pos rfl, if_neg hb0, if_pos rfl]
              refine (getn_flow wt n cap bl (some x) next y m mc _ w hm hm1 hc hy (by omega) (by omega) (by omega) x dt p rfl hD hP hx' hf' hwh (by omega) (by omega)).mono ?_
              rintro e w' ⟨g, c, ga, ca, rfl, hfb, hfa, hb⟩
              exact ⟨some ⟨g, 0, none⟩, n + (m - 1), c, some ⟨ga, 0, none⟩, 3, ca, none, 0, 0, rfl, hfb, by simpa using hfa, FB.nil _ _, fun _ => rfl, hb⟩
            · rw [if_neg hb0, if_neg hl1, if_neg hb0, if_neg hl1]
              refine (getn_left wt n cap (some x) next block left y m mc _ w hm hm1 hc hy (by omega) (by omega) (by omega) x dt p rfl hD hP hx' hf' hwh hb0 (by omega) (by omega)).mono ?_
              rintro e w' ⟨g, c, rfl, hfb, hb⟩
              exact ⟨some ⟨g, 0, none⟩, n + (m - 1), c, none, 0, 0, none, 0, 0, rfl, hfb, FB.nil _ _, FB.nil _ _, fun _ => rfl, hb⟩
theorem oneX_ans (block : Int) (p : List UInt8) : (oneX block p).ans = [] := by unfold oneX; split <;> rfl
theorem firstX_whole (block : Int) (p : List UInt8) : (firstX block p).whole = [] := by unfold firstX; repeat' split
                                                                                        all_goals rfl
theorem get_any (want : Int) (a : Option Addr) (n cap : Nat) (next block left : Int) (b : Option Addr) (m mc : Nat) (dt p : List UInt8) (w : World) (hD : IsBytes w a n cap dt) (hP : IsBytes w b m mc p) :
    Calls Try.prog 21 #[gtV want a n cap next block left, .slice b m mc] w fun e w' => Got (getX want next block left dt p) w w' e := by
  have hl := Nat.le_trans hD.2.1 hD.2.2.1
  have hm := Nat.le_trans hP.2.1 hP.2.2.1
  have hdl := hD.1
  have hpl := hP.1
  unfold getX
  rw [hdl, hpl]
  by_cases hE : gtE n want next block left ≠ 0
  · rw [if_pos hE]
    exact get_bad want a n cap next block left b m mc w hl hm hE
  · rw [if_neg hE]
    have hE' : gtE n want next block left = 0 := Decidable.not_not.1 hE
    by_cases h0 : m = 0
    · rw [if_pos h0]
      exact get_short want a n cap next block left b m mc w hl hm hE' h0
    · rw [if_neg h0]
      by_cases h8 : 8 < m
      · rw [if_pos h8]
        exact get_many want a n cap next block left b m mc w hl hm hE' h8
      · rw [if_neg h8]
        obtain ⟨y, rfl⟩ : ∃ y, b = some y := by
          cases b with
          | none => have := hP.2.2.2.1 rfl; omega
          | some x => exact ⟨x, rfl⟩
        have hy := hP.2.2.2.2 y rfl 0 (by omega)
        rw [add0P] at hy
        have hc := UInt8.toNat_lt (p.getD 0 0)
        by_cases k0 : (p.getD 0 0).toNat / 16 = 0
        · rw [if_pos k0]
          exact get_k0 want a n cap next block left (some y) m mc w hl hm hE' y _ hc rfl (by omega) (by omega) hy k0 (oneX block p) (oneX_ans _ _) (fun W hb => one_any want a n cap next block left y m mc p W (by omega) (by omega) (isBytes_below hP hb))
        · rw [if_neg k0]
          by_cases k1 : (p.getD 0 0).toNat / 16 = 1
          · rw [if_pos k1]
            exact get_k1 want a n cap next block left (some y) m mc w hl hm hE' y _ hc rfl (by omega) (by omega) hy k1 (firstX block p) (firstX_whole _ _) (fun W hb => first_any want a n cap next block left y m mc p W (by omega) (by omega) (isBytes_below hP hb) (gtE_ok hE').1.2.1)
          · rw [if_neg k1]
            by_cases k2 : (p.getD 0 0).toNat / 16 = 2
            · rw [if_pos k2]
              exact get_k2 want a n cap next block left (some y) m mc w hl hm hE' y _ hc rfl (by omega) (by omega) hy k2 (nextX want next block left dt p) (fun W hb => nextp_any want a n cap next block left y m mc dt p W (by omega) (by omega) (isBytes_below hD hb) (isBytes_below hP hb) hE')
            · rw [if_neg k2]
              exact get_who want a n cap next block left (some y) m mc w hl hm hE' y _ hc rfl (by omega) (by omega) hy (by omega)
end Bw
end Go.Proofs.Ytgjnfmbmndnihaa
