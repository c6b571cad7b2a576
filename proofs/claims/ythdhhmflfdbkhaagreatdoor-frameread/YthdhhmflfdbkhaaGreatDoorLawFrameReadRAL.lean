/- Joined out of our texts: ReadInv. -/
import Derived.Test.YthdhhmflfdbkhaaGreatDoorLawFrameReadRAH
/- What stays true while a frame is read: plain facts on lists; of no program. -/
namespace Go.Proofs.YthdhhmflfdbkhaaGreatDoor
namespace Bw
open Bm Cm

theorem takeG_most (b : List UInt8) : ∀ m u o, 4 * u + (endR (b.take u)).2 ≤ 5 * o.length → (endR (b.take u)).2 ≤ 4 → (takeG b m u o).2.2 = 0 → 4 * (takeG b m u o).2.1 ≤ 5 * (takeG b m u o).1.length
  | 0, u, o, h1, _, _ => by rw [takeG_zero]; show 4 * u ≤ 5 * o.length; omega
  | m + 1, u, o, h1, h4, h => by
    by_cases hu : b.length ≤ u
    · rw [takeG_end b m u o hu] at h; cases h
    · have hul : u < b.length := by omega
      have hf := end_five b u hul h4
      by_cases h5 : (endR (b.take (u + 1))).2 = 5
      · by_cases hu2 : b.length ≤ u + 1
        · rw [takeG_end5 b m u o (by omega) h5] at h; cases h
        · by_cases h6 : b.getD (u + 1) 0 = b.getD u 0
          · rw [takeG_six b m u o (by omega) h5 h6] at h; cases h
          · rw [takeG_on5 b m u o (by omega) h5 h6] at h ⊢
            have he := end_on5 b u (by omega) h6
            have hn := end_next b u hul
            have hp := addR_pos (endR (b.take u)) (b.getD u 0)
            rw [← hn] at hp
            exact takeG_most b m (u + 2) _ (by rw [he]; simp; omega) (by rw [he]; simp) h
      · rw [takeG_on b m u o hul h5] at h ⊢
        have hn := end_next b u hul
        have hp := addR_pos (endR (b.take u)) (b.getD u 0)
        rw [← hn] at hp
        exact takeG_most b m (u + 1) _ (by simp; omega) (by omega) h
/-- few bits were put in -/
def Mst (S : RS) : Prop := 4 * S.u ≤ 5 * S.o.length
theorem Mst.start : Mst ⟨0, 0, []⟩ := Nat.le_refl _
theorem Mst.fail {S : RS} (h : Mst S) (e : Int) : Mst (failP S e) := by unfold failP; split <;> exact h
theorem Mst.take {b : List UInt8} {S : RS} (h : Mst S) (n : Nat) : Mst (takeP b S n).2 := by
  unfold takeP
  split
  · split
    · rename_i h0
      exact takeG_most b (S.o.length + n) 0 [] (by simp [endR]) (by simp [endR]) h0
    · exact h
  · exact h
theorem Mst.wstep {b : List UInt8} {S : RS} (h : Mst S) (c : UInt8) : Mst (Bw.wstep b S c) := by
  unfold Bw.wstep; split
  · exact h.take 1
  · exact (h.take 1).fail 4
theorem Mst.want {b : List UInt8} : ∀ (l : List UInt8) {S : RS}, Mst S → Mst (wantP b S l)
  | [], _, h => h
  | c :: l, _, h => Mst.want l (h.wstep c)
/-- where nothing is wrong, something was read -/
def Fed (S : RS) : Prop := S.fl = 0 → 1 ≤ S.o.length
theorem Fed.fail {S : RS} (h : Fed S) (e : Int) (he : e ≠ 0) : Fed (failP S e) := by
  unfold failP; split
  · intro h0; exact absurd h0 he
  · exact h
theorem takeP_o {b : List UInt8} {S : RS} {n : Nat} (h : (takeP b S n).2.fl = 0) : S.fl = 0 ∧ (takeP b S n).2.o.length = S.o.length + n := by
  unfold takeP at h ⊢
  split at h
  · rename_i h0
    rw [if_pos h0]
    refine ⟨h0, ?_⟩
    split at h
    · rename_i h1
      rw [if_pos h1]
      exact takeG_len b _ h1
    · rename_i h1
      exact absurd h h1
  · rename_i h0
    exact absurd h h0
theorem Fed.take {b : List UInt8} {S : RS} (h : Fed S) (n : Nat) : Fed (takeP b S n).2 := by
  intro h0
  obtain ⟨h1, h2⟩ := takeP_o h0
  have := h h1
  omega
theorem Fed.take1 (b : List UInt8) (S : RS) (n : Nat) (hn : 1 ≤ n) : Fed (takeP b S n).2 := by
  intro h0
  obtain ⟨h1, h2⟩ := takeP_o h0
  omega
theorem Fed.wstep (b : List UInt8) (S : RS) (c : UInt8) : Fed (Bw.wstep b S c) := by
  unfold Bw.wstep; split
  · exact Fed.take1 b S 1 (Nat.le_refl _)
  · exact (Fed.take1 b S 1 (Nat.le_refl _)).fail 4 (by decide)
theorem Fed.want {b : List UInt8} : ∀ (l : List UInt8) {S : RS}, Fed S → Fed (wantP b S l)
  | [], _, h => h
  | c :: l, S, _ => Fed.want l (Fed.wstep b S c)

theorem name_inv {b : List UInt8} (hb : rowB b = true) {S : RS} {n : Nat} (h : Inv b S n) (hm : Mst S) : Inv b (nameP b S).S (n + 33) ∧ Mst (nameP b S).S ∧ Fed (nameP b S).S := by
  have i1 : Inv b (nm1 b S) (n + 1) := Inv.want hb [48] h
  have i2 : Inv b (nmN b S).2 (n + 1 + 11) := i1.num hb 11
  have i3 : Inv b (nmF b S).2 (n + 1 + 11 + 1) := i2.take hb 1
  have i4 : Inv b (nmL b S).2 (n + 1 + 11 + 1 + 1) := i3.take hb 1
  have i5 : Inv b (nm5 b S) (n + 1 + 11 + 1 + 1) := by unfold nm5; split; exact i4; exact i4.fail 4
  have i6 : Inv b (nmM b S).2 (n + 1 + 11 + 1 + 1 + 18) := i5.num hb 18
  have i7 : Inv b (nmR b S).2 (n + 1 + 11 + 1 + 1 + 18 + 1) := i6.take hb 1
  have m1 : Mst (nm1 b S) := Mst.want [48] hm
  have m2 : Mst (nmN b S).2 := m1.take 11
  have m3 : Mst (nmF b S).2 := m2.take 1
  have m4 : Mst (nmL b S).2 := m3.take 1
  have m5 : Mst (nm5 b S) := by unfold nm5; split; exact m4; exact m4.fail 4
  have m6 : Mst (nmM b S).2 := m5.take 18
  have m7 : Mst (nmR b S).2 := m6.take 1
  have f4 : Fed (nmL b S).2 := Fed.take1 b _ 1 (Nat.le_refl _)
  have f7 : Fed (nmR b S).2 := Fed.take1 b _ 1 (Nat.le_refl _)
  unfold nameP
  split
  · exact ⟨i7, m7, f7⟩
  · exact ⟨i4.up (by omega), m4, f4⟩
theorem form_inv {b : List UInt8} (hb : rowB b = true) {S : RS} {n : Nat} (h : Inv b S n) (hm : Mst S) (lo re : Bool) : Inv b (formP b S lo re).1 (n + 4) ∧ Mst (formP b S lo re).1 ∧ Fed (formP b S lo re).1 := by
  have i1 : Inv b (takeP b S 1).2 (n + 1) := h.take hb 1
  have m1 : Mst (takeP b S 1).2 := hm.take 1
  have f1 : Fed (takeP b S 1).2 := Fed.take1 b S 1 (Nat.le_refl _)
  unfold formP
  split
  · cases re
    · exact ⟨Inv.want hb [48, 49, 48] i1, Mst.want _ m1, Fed.want _ f1⟩
    · exact ⟨(i1.fail 4).up (by omega), m1.fail 4, f1.fail 4 (by decide)⟩
  · cases lo
    · exact ⟨i1.up (by omega), m1, f1⟩
    · exact ⟨(Inv.want hb [48] i1).up (by simp), Mst.want _ m1, Fed.want _ f1⟩
theorem dtN_le (b : List UInt8) (hb : rowB b = true) (S : RS) : dtN b S ≤ 64 := by
  have h := numP_lt b hb S 4
  have : ∀ m : Fin 16, sizesL.getD m.val 0 ≤ 64 := by decide +kernel
  exact this ⟨(numP b S 4).1, h⟩
theorem data_inv {b : List UInt8} (hb : rowB b = true) {S : RS} {n : Nat} (h : Inv b S n) (hm : Mst S) (fa re : Bool) : Inv b (dataP b S fa re).S (n + 516) ∧ Mst (dataP b S fa re).S ∧ Fed (dataP b S fa re).S := by
  have i1 : Inv b (numP b S 4).2 (n + 4) := h.num hb 4
  have m1 : Mst (numP b S 4).2 := hm.take 4
  have f1 : Fed (numP b S 4).2 := Fed.take1 b S 4 (by omega)
  have i2 : Inv b (dt2 b S fa) (n + 4) := by unfold dt2; split; exact i1.fail 4; exact i1
  have m2 : Mst (dt2 b S fa) := by unfold dt2; split; exact m1.fail 4; exact m1
  have f2 : Fed (dt2 b S fa) := by unfold dt2; split; exact f1.fail 4 (by decide); exact f1
  have hd := dtN_le b hb S
  unfold dataP
  cases re
  · exact ⟨(i2.take hb (8 * dtN b S)).up (by omega), m2.take _, f2.take _⟩
  · exact ⟨i2.up (by omega), m2, f2⟩
theorem data_len (b : List UInt8) (hb : rowB b = true) (S : RS) (fa re : Bool) : (dataP b S fa re).dt.length ≤ 64 := by
  unfold dataP
  cases re
  · show (bytesL _).length ≤ 64
    have hd := dtN_le b hb S
    unfold bytesL
    rw [List.length_map, List.length_range]
    rcases takeP_len b (dt2 b S fa) (8 * dtN b S) with h | h
    · rw [h]; omega
    · rw [h]; simp
  · exact Nat.zero_le _
end Bw
end Go.Proofs.YthdhhmflfdbkhaaGreatDoor
