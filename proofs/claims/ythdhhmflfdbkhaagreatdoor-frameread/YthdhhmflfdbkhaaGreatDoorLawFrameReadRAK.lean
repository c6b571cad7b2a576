/- Joined out of our texts: ReadSame. -/
import Derived.Test.YthdhhmflfdbkhaaGreatDoorLawFrameReadRAH
import Derived.Test.YthdhhmflfdbkhaaGreatDoorLawFrameReadRAJ
/- Part by part or bit by bit, the same is read: plain facts on lists; of no program. -/
namespace Go.Proofs.YthdhhmflfdbkhaaGreatDoor
namespace Bw
open Bm Cm

/-- the same fault, and where there is none the same -/
def Eqv (S S' : RS) : Prop := S.fl = S'.fl ∧ (S.fl = 0 → S = S')
theorem Eqv.refl (S : RS) : Eqv S S := ⟨rfl, fun _ => rfl⟩
/-- what was taken is what is taken of so many -/
def Good (b : List UInt8) (S : RS) : Prop := S.fl = 0 → takeG b S.o.length 0 [] = (S.o, S.u, 0)
theorem Good.start (b : List UInt8) : Good b ⟨0, 0, []⟩ := fun _ => rfl
theorem Good.fail {b : List UInt8} {S : RS} (h : Good b S) {e : Int} (he : e ≠ 0) : Good b (failP S e) := by
  unfold failP
  split
  · intro h0; exact absurd h0 he
  · exact h
theorem Good.take {b : List UInt8} {S : RS} (h : Good b S) (n : Nat) : Good b (takeP b S n).2 := by
  unfold takeP
  split
  · split
    · rename_i h1
      intro _
      have hl := takeG_len b _ h1
      show takeG b (takeG b (S.o.length + n) 0 []).1.length 0 [] = _
      rw [hl]
      generalize takeG b (S.o.length + n) 0 [] = A at *
      obtain ⟨x, y, z⟩ := A
      simp only at h1 ⊢
      rw [h1]
    · rename_i h1
      intro h2; exact absurd h2 h1
  · exact h
theorem Good.wstep {b : List UInt8} {S : RS} (h : Good b S) (c : UInt8) : Good b (Bw.wstep b S c) := by
  unfold Bw.wstep
  split
  · exact h.take 1
  · exact (h.take 1).fail (by decide)
theorem takeP_bad {b : List UInt8} {S : RS} (h : S.fl ≠ 0) (n : Nat) : takeP b S n = ([], S) := by unfold takeP; rw [if_neg h]
theorem failP_bad {S : RS} (h : S.fl ≠ 0) (e : Int) : failP S e = S := by unfold failP; rw [if_neg h]
theorem bitM_bad {b : List UInt8} {S : RS} (h : S.fl ≠ 0) : bitM b S = (48, S) := by unfold bitM; rw [if_neg h]
theorem mustM_bad {S : RS} (h : S.fl ≠ 0) (ok : Bool) (e : Int) : mustM S ok e = S := by unfold mustM; rw [if_neg (fun x => h x.1)]
theorem wstep_bad {b : List UInt8} {S : RS} (h : S.fl ≠ 0) (c : UInt8) : Bw.wstep b S c = S := by
  unfold Bw.wstep; rw [takeP_bad h, if_neg (by simp)]; exact failP_bad h 4
theorem wantP_bad {b : List UInt8} {S : RS} (h : S.fl ≠ 0) (l : List UInt8) : wantP b S l = S := by
  unfold wantP
  induction l with
  | nil => rfl
  | cons c l ih => rw [List.foldl_cons, wstep_bad h]; exact ih
theorem nextP_bad {b : List UInt8} {S : RS} (h : S.fl ≠ 0) (n : Nat) : nextP b S n = ([], S) := by unfold nextP; rw [if_neg h]
theorem numJ_bad {b : List UInt8} {S : RS} (h : S.fl ≠ 0) : ∀ n, (numJ b S n).2 = S
  | 0 => rfl
  | n + 1 => by show (bitM b (numJ b S n).2).2 = S; rw [numJ_bad h n, bitM_bad h]
/-- one bit: the same behind it; and where nothing is wrong, the same bit -/
theorem bit_take (b : List UInt8) (S : RS) : (takeP b S 1).2 = (bitM b S).2 ∧ ((bitM b S).2.fl = 0 → (takeP b S 1).1 = [(bitM b S).1]) := by
  unfold takeP bitM
  by_cases h : S.fl = 0
  · rw [if_pos h, if_pos h]
    by_cases h1 : (takeG b (S.o.length + 1) 0 []).2.2 = 0
    · rw [if_pos h1, if_pos h1]
      refine ⟨rfl, fun _ => ?_⟩
      have hl := takeG_len b _ h1
      show List.drop _ _ = [_]
      generalize (takeG b (S.o.length + 1) 0 []).1 = x at *
      rw [List.drop_eq_getElem_cons (by omega), List.drop_of_length_le (by omega)]
      simp [List.getD, show S.o.length < x.length by omega]
    · rw [if_neg h1, if_neg h1]
      exact ⟨rfl, fun h2 => absurd h2 h1⟩
  · rw [if_neg h, if_neg h]
    exact ⟨rfl, fun h2 => absurd h2 h⟩
theorem takeG_more (b : List UInt8) : ∀ (n m u : Nat) (o : List UInt8), (takeG b n u o).2.2 ≠ 0 → takeG b (n + m) u o = takeG b n u o
  | 0, _, _, _, h => absurd rfl h
  | n + 1, m, u, o, h => by
    rw [show n + 1 + m = (n + m) + 1 by omega]
    rw [takeG] at h ⊢
    rw [takeG]
    split
    · rfl
    · rename_i h1
      rw [if_neg h1] at h
      split
      · rename_i h2
        rw [if_pos h2] at h
        split
        · rfl
        · rename_i h3
          rw [if_neg h3] at h
          split
          · rfl
          · rename_i h4
            rw [if_neg h4] at h
            exact takeG_more b n m _ _ h
      · rename_i h2
        rw [if_neg h2] at h
        exact takeG_more b n m _ _ h
/-- one bit more -/
theorem take_succ (b : List UInt8) (S : RS) (n : Nat) : (takeP b S (n + 1)).2.fl = (bitM b (takeP b S n).2).2.fl ∧
    ((takeP b S (n + 1)).2.fl = 0 → (takeP b S (n + 1)).2 = (bitM b (takeP b S n).2).2 ∧ (takeP b S (n + 1)).1 = (takeP b S n).1 ++ [(bitM b (takeP b S n).2).1]) := by
  by_cases h : S.fl = 0
  · have e1 : ∀ k, takeP b S k = if (takeG b (S.o.length + k) 0 []).2.2 = 0 then ((takeG b (S.o.length + k) 0 []).1.drop S.o.length, ⟨0, (takeG b (S.o.length + k) 0 []).2.1, (takeG b (S.o.length + k) 0 []).1⟩) else ([], ⟨(takeG b (S.o.length + k) 0 []).2.2, S.u, S.o⟩) := by
      intro k; unfold takeP; rw [if_pos h]
    by_cases h1 : (takeG b (S.o.length + n) 0 []).2.2 = 0
    · have hl := takeG_len b _ h1
      have e2 : takeP b S n = ((takeG b (S.o.length + n) 0 []).1.drop S.o.length, ⟨0, (takeG b (S.o.length + n) 0 []).2.1, (takeG b (S.o.length + n) 0 []).1⟩) := by rw [e1, if_pos h1]
      have hs := takeG_split b 1 (S.o.length + n) 0 []
      rw [e1 (n + 1), e2]
      unfold bitM
      simp only
      rw [if_pos trivial, hl, ← Nat.add_assoc]
      by_cases h2 : (takeG b (S.o.length + n + 1) 0 []).2.2 = 0
      · rw [if_pos h2, if_pos h2]
        refine ⟨rfl, fun _ => ⟨rfl, ?_⟩⟩
        have hl2 := takeG_len b _ h2
        obtain ⟨s, k, hk1, hk2⟩ := hs (takeG b (S.o.length + n + 1) 0 []).1 (takeG b (S.o.length + n + 1) 0 []).2.1 (by
          conv => lhs; rw [show S.o.length + n + 1 = (S.o.length + n) + 1 by omega]
          generalize takeG b (S.o.length + n + 1) 0 [] = A at *
          obtain ⟨x, y, z⟩ := A
          simp only at h2 ⊢
          rw [h2])
        rw [hk1] at hl
        have hp := (takeG_ok b 1 _ _ _ _ hk2).2.2
        rw [hk1]
        simp only at hl ⊢
        obtain ⟨t, ht⟩ := hp
        have htl : t.length = 1 := by
          have := congrArg List.length ht
          rw [List.length_append, hl, hl2] at this
          omega
        obtain ⟨c, rfl⟩ := List.length_eq_one_iff.1 htl
        rw [← ht, List.drop_append_of_le_length (by omega)]
        congr 2
        rw [← hl]
        simp [List.getD]
      · rw [if_neg h2, if_neg h2]
        exact ⟨rfl, fun h3 => absurd h3 h2⟩
    · have h2 := takeG_more b (S.o.length + n) 1 0 [] h1
      have e2 : takeP b S n = ([], ⟨(takeG b (S.o.length + n) 0 []).2.2, S.u, S.o⟩) := by rw [e1, if_neg h1]
      have e3 : takeP b S (n + 1) = ([], ⟨(takeG b (S.o.length + n) 0 []).2.2, S.u, S.o⟩) := by
        rw [e1, ← Nat.add_assoc, h2, if_neg h1]
      rw [e2, e3, bitM_bad h1]
      exact ⟨rfl, fun h3 => absurd h3 h1⟩
  · rw [takeP_bad h, takeP_bad h, bitM_bad h]
    exact ⟨rfl, fun h3 => absurd h3 h⟩
theorem take_zero (b : List UInt8) (S : RS) (hG : Good b S) : takeP b S 0 = ([], S) := by
  by_cases h : S.fl = 0
  · unfold takeP
    rw [if_pos h, Nat.add_zero, hG h]
    obtain ⟨fl, u, o⟩ := S
    simp only at h
    subst h
    simp
  · exact takeP_bad h 0
theorem bitM_eqv {b : List UInt8} {S S' : RS} (h : Eqv S S') : Eqv (bitM b S).2 (bitM b S').2 ∧ ((bitM b S).2.fl = 0 → (bitM b S).1 = (bitM b S').1) := by
  by_cases h0 : S.fl = 0
  · rw [h.2 h0]; exact ⟨Eqv.refl _, fun _ => rfl⟩
  · have h1 : S'.fl ≠ 0 := by rw [← h.1]; exact h0
    rw [bitM_bad h0, bitM_bad h1]
    exact ⟨h, fun _ => rfl⟩
theorem num_eqv {b : List UInt8} {S S' : RS} (hG : Good b S) (h : Eqv S S') : ∀ n, Eqv (numP b S n).2 (numJ b S' n).2 ∧ ((numP b S n).2.fl = 0 → (numP b S n).1 = (numJ b S' n).1)
  | 0 => by
    unfold numP
    rw [take_zero b S hG]
    exact ⟨h, fun _ => rfl⟩
  | n + 1 => by
    obtain ⟨h1, h2⟩ := num_eqv hG h n
    obtain ⟨g1, g2⟩ := take_succ b S n
    obtain ⟨q1, q2⟩ := bitM_eqv (b := b) h1
    have e : (numP b S n).2 = (takeP b S n).2 := rfl
    rw [e] at q1 q2 h2
    refine ⟨⟨g1.trans q1.1, fun h0 => ?_⟩, fun h0 => ?_⟩
    · have h0' : (takeP b S (n + 1)).2.fl = 0 := h0
      have := (g2 h0').1
      show (takeP b S (n + 1)).2 = (bitM b (numJ b S' n).2).2
      rw [this]
      exact q1.2 (by rw [← this]; exact h0')
    · have h0' : (takeP b S (n + 1)).2.fl = 0 := h0
      obtain ⟨k1, k2⟩ := g2 h0'
      have hz : (bitM b (takeP b S n).2).2.fl = 0 := by rw [← k1]; exact h0'
      have hz2 : (takeP b S n).2.fl = 0 := by
        rcases Classical.em ((takeP b S n).2.fl = 0) with x | x
        · exact x
        · rw [bitM_bad x] at hz; exact hz
      show val (takeP b S (n + 1)).1 = 2 * (numJ b S' n).1 + dig (bitM b (numJ b S' n).2).1
      rw [k2, val_snoc, q2 hz]
      have := h2 hz2
      unfold numP at this
      simp only at this
      rw [this]
end Bw
end Go.Proofs.YthdhhmflfdbkhaaGreatDoor
