/- The law StuffParts returns true for all texts and all two numbers: what is taken of fewer bits stands in front of what is taken of more. -/
import Derived.Test.YtkfgcedbdfjofalStuffed
import Derived.Test.YtkfgcedbdfjofalShelfPre
namespace Go.Proofs.Ytkfgcedbdfjofal
open Go.ChangeShapes Go.WideShapes Go.ChangeAt Go.RowKit
namespace Bw
open Bm

def takeA (l : List UInt8) (n : Int) : List UInt8 × Nat × Int :=
  if checkE l = 0 then (if n < 0 ∨ 1000 < n then ([], 0, 3) else takeG l n.toNat 0 []) else ([], 0, checkE l)

theorem take_any (s : ByteArray) (n : Int) (w : World) (hs : s.size ≤ maxLen) :
    Calls Try.prog 7 #[.string s, .int .i64 n] w fun e w' => e = .returned (takeV (takeA s.data.toList n)) ∧ Below w.heap.size w w' := by
  unfold takeA
  by_cases hc : checkE s.data.toList = 0
  · rw [if_pos hc]
    by_cases hn : n < 0 ∨ 1000 < n
    · rw [if_pos hn]; exact take_range s n w hc hn
    · rw [if_neg hn]
      obtain ⟨m, rfl⟩ : ∃ m : Nat, n = m := ⟨n.toNat, by omega⟩
      exact take_ok s m w hc (by omega)
  · rw [if_neg hc]; exact take_bad s n w hs hc

theorem hasPre {a b : List UInt8} (h : a <+: b) : Lib.hasPrefix b a = true := by
  obtain ⟨t, rfl⟩ := h
  simp [Lib.hasPrefix]

theorem takeA_parts (l : List UInt8) (n m : Int) (h : n ≤ m) (h0 : 0 ≤ n) (hf : (takeA l m).2.2 = 0) :
    (takeA l n).2.2 = 0 ∧ (takeA l n).1 <+: (takeA l m).1 ∧ (takeA l n).2.1 ≤ (takeA l m).2.1 ∧ (((takeA l n).1.length : Nat) : Int) = n := by
  by_cases hc : checkE l = 0
  · have hm1 : takeA l m = if m < 0 ∨ 1000 < m then ([], 0, 3) else takeG l m.toNat 0 [] := by unfold takeA; rw [if_pos hc]
    have hn1 : takeA l n = if n < 0 ∨ 1000 < n then ([], 0, 3) else takeG l n.toNat 0 [] := by unfold takeA; rw [if_pos hc]
    by_cases hm : m < 0 ∨ 1000 < m
    · rw [hm1, if_pos hm] at hf; simp at hf
    · rw [if_neg hm] at hm1
      rw [if_neg (by omega)] at hn1
      rw [hm1] at hf ⊢
      rw [hn1]
      clear hm1 hn1
      obtain ⟨a, rfl⟩ : ∃ a : Nat, n = a := ⟨n.toNat, by omega⟩
      obtain ⟨b, rfl⟩ : ∃ b : Nat, m = (a + b : Nat) := ⟨(m - a).toNat, by omega⟩
      simp only [Int.toNat_natCast] at *
      obtain ⟨A, hA⟩ : ∃ A, takeG l (a + b) 0 [] = A := ⟨_, rfl⟩
      obtain ⟨o', u', e'⟩ := A
      rw [hA] at hf
      simp only at hf
      subst hf
      obtain ⟨s, k, h1, h2⟩ := takeG_split l b a 0 [] o' u' hA
      obtain ⟨g1, g2, g3⟩ := takeG_ok l b k s o' u' h2
      obtain ⟨f1, f2, f3⟩ := takeG_ok l a 0 [] s k h1
      rw [h1, hA]
      exact ⟨rfl, g3, g2, by simp at f1; simp; omega⟩
  · unfold takeA at hf
    rw [if_neg hc] at hf
    exact absurd hf hc
theorem takeA_low (l : List UInt8) (n : Int) (h : n < 0) : (takeA l n).2.2 ≠ 0 := by
  unfold takeA
  split
  · rw [if_pos (.inl h)]; simp
  · rename_i h; exact h

set_option maxHeartbeats 4000000 in
theorem parts_any (s : ByteArray) (n m : Int) (w : World) (hs : s.size ≤ maxLen) :
    Calls Try.prog 4 #[.string s, .int .i64 n, .int .i64 m] w fun e w' => e = .returned (.bool true) ∧ Below w.heap.size w w' := by
  have ht1 := fun W => take_any s n W hs
  have ht2 := fun W => take_any s m W hs
  have hparts := takeA_parts s.data.toList n m
  have hlow := takeA_low s.data.toList n
  obtain ⟨A, hA⟩ : ∃ A, A = takeA s.data.toList n := ⟨_, rfl⟩
  obtain ⟨B, hB⟩ : ∃ B, B = takeA s.data.toList m := ⟨_, rfl⟩
  rw [← hA] at ht1 hparts hlow
  rw [← hB] at ht2 hparts
  clear hA hB
  obtain ⟨x, k, e0⟩ := A
  obtain ⟨y, j, f0⟩ := B
  unfold takeV at ht1 ht2
  simp only at ht1 ht2 hparts hlow
  have hx := mk_list x
  have hy := mk_list y
  have hxs := mk_size x
  generalize ByteArray.mk x.toArray = X at *
  generalize ByteArray.mk y.toArray = Y at *
  have hpre := fun W => Try.strings_HasPrefix Y X W
  rw [hx, hy] at hpre
  have HT1 := Hid.mk ht1
  have HT2 := Hid.mk ht2
  have HPRE := Hid.mk hpre
  have HPARTS := Hid.mk hparts
  have HLOW := Hid.mk hlow
  have HXS := Hid.mk hxs
  clear ht1 ht2 hpre hparts hlow hx hy hxs hs
  go_enter Try.func4, Try.ntmps4
  go_wp2_with fail
  refine (HT1.out _).mono ?_
  rintro e w1 ⟨rfl, hb1⟩
  go_wp2_with fail
  refine (HT2.out _).mono ?_
  rintro e w2 ⟨rfl, hb2⟩
  go_wp2_with fail
  refine (stuffed_any _).mono ?_
  rintro e w3 ⟨rfl, hb3⟩
  have hbel := bl2 (bl2 hb1 hb2) hb3
  clear hb1 hb2 hb3 HT1 HT2
  by_cases hnm : m < n
  · go_wp2_with fail
    refine (stuffed_any _).mono ?_
    rintro e w4 ⟨rfl, hb4⟩
    go_wp2_with fail
    go_ret
    exact ⟨by first | rfl | exact (by simp), bl2 hbel hb4⟩
  · have hnm' : decide (m < n) = false := by simpa using hnm
    by_cases hf : f0 = 0
    · subst hf
      by_cases hn0 : n < 0
      · have he : (e0 == 0) = false := by rw [beq_eq_false_iff_ne]; exact HLOW.out hn0
        have he' : (e0 != 0) = true := by simp only [bne, he]; rfl
        go_wp2_with fail
        refine (stuffed_any _).mono ?_
        rintro e w4 ⟨rfl, hb4⟩
        go_wp2_with fail
        go_ret
        exact ⟨by first | rfl | exact (by simp), bl2 hbel hb4⟩
      · obtain ⟨he, hp, hk, hl⟩ := HPARTS.out (by omega) (by omega) rfl
        subst he
        have hk' : (k : Int) ≤ (j : Int) := by omega
        have hl' : ((X.size : Int) == n) = true := by rw [HXS.out, hl]; simp
        have hpt := hasPre hp
        have HP : ∀ W, Calls Try.prog 9 #[.string Y, .string X] W fun e w' => e = .returned (.bool true) ∧ w' = W := by
          intro W
          have := HPRE.out W
          rw [hpt] at this
          exact this
        have HPP := Hid.mk HP
        clear hp hk hl HP hpt HPRE
        go_wp2_with fail
        refine (HPP.out _).mono ?_
        rintro e w4 ⟨rfl, hw4⟩
        subst hw4
        go_wp2_with fail
        go_ret
        exact ⟨by first | rfl | exact (by simp), hbel⟩
    · have hf' : (f0 == 0) = false := by simpa using hf
      have hf2 : (f0 != 0) = true := by simp only [bne, hf']; rfl
      have he : ((e0 == 0) = false ∧ (e0 != 0) = true) ∨ e0 = 0 := by
        by_cases h : e0 = 0
        · exact .inr h
        · have h1 : (e0 == 0) = false := by simpa using h
          exact .inl ⟨h1, by simp only [bne, h1]; rfl⟩
      clear hf
      rcases he with ⟨he, he'⟩ | rfl
      all_goals by_cases hn0 : n < 0
      all_goals try have hn0' : decide (n < 0) = false := by simpa using hn0
      all_goals focus
        go_wp2_with fail
        refine (stuffed_any _).mono ?_
        rintro e w4 ⟨rfl, hb4⟩
        go_wp2_with fail
        go_ret
        exact ⟨by first | rfl | exact (by simp), bl2 hbel hb4⟩
end Bw
end Go.Proofs.Ytkfgcedbdfjofal
namespace Go.Proofs.Ytkfgcedbdfjofal.stuffParts
theorem walk (a0 : ByteArray) (a1 a2 : Int) (w : World) (w0 : a0.size ≤ maxLen) (_ : (Lit.int .i64 a1).wf = true) (_ : (Lit.int .i64 a2).wf = true) :
    Calls Try.prog 4 #[.string a0, .int .i64 a1, .int .i64 a2] w fun e w' => e = .returned (.bool true) ∧ RowKit.Below w.heap.size w w' := Bw.parts_any a0 a1 a2 w w0
end Go.Proofs.Ytkfgcedbdfjofal.stuffParts
