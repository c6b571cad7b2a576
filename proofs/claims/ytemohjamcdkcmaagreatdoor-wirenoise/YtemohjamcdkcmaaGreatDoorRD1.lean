/- What stays true through the document's own reading, part by part: plain facts on lists; of no program. -/
import Derived.Test.YtemohjamcdkcmaaGreatDoorC4
namespace Go.Proofs.YtemohjamcdkcmaaGreatDoor
namespace Bw
open Bm Cm
def bitM (b : List UInt8) (S : RS) : UInt8 × RS :=
  if S.fl = 0 then
    (if (takeG b (S.o.length + 1) 0 []).2.2 = 0 then ((takeG b (S.o.length + 1) 0 []).1.getD S.o.length 0, ⟨0, (takeG b (S.o.length + 1) 0 []).2.1, (takeG b (S.o.length + 1) 0 []).1⟩)
     else (48, ⟨(takeG b (S.o.length + 1) 0 []).2.2, S.u, S.o⟩))
  else (48, S)
theorem bitM_bit (b : List UInt8) (hb : rowB b = true) (S : RS) : bit (bitM b S).1 = true := by
  unfold bitM
  split
  · split
    · rename_i h
      have hl := takeG_len b (S.o.length + 1) h
      have hr := takeG_row b hb (S.o.length + 1) 0 [] rfl
      have hk : S.o.length < (takeG b (S.o.length + 1) 0 []).1.length := by omega
      rw [List.getD, List.getElem?_eq_getElem hk, Option.getD_some]
      exact rowB_all.1 hr _ (List.getElem_mem hk)
    · rfl
  · rfl
theorem bitM_len (b : List UInt8) (S : RS) : (bitM b S).2.o.length ≤ S.o.length + 1 := by
  unfold bitM
  split
  · split
    · rename_i h
      show (takeG b (S.o.length + 1) 0 []).1.length ≤ _
      rw [takeG_len b _ h]; exact Nat.le_refl _
    · show S.o.length ≤ _; omega
  · show S.o.length ≤ _; omega
/-- so many bits, as a number -/
def numJ (b : List UInt8) (S : RS) : Nat → Nat × RS
  | 0 => (0, S)
  | j + 1 => (2 * (numJ b S j).1 + dig (bitM b (numJ b S j).2).1, (bitM b (numJ b S j).2).2)
theorem numJ_lt (b : List UInt8) (hb : rowB b = true) (S : RS) : ∀ j, (numJ b S j).1 < 2 ^ j
  | 0 => by simp [numJ]
  | j + 1 => by
    have h1 := numJ_lt b hb S j
    have h2 := (bit_dig (bitM_bit b hb (numJ b S j).2)).1
    show 2 * (numJ b S j).1 + dig (bitM b (numJ b S j).2).1 < 2 ^ (j + 1)
    rw [Nat.pow_succ]; omega
theorem numJ_len (b : List UInt8) (S : RS) : ∀ j, (numJ b S j).2.o.length ≤ S.o.length + j
  | 0 => Nat.le_refl _
  | j + 1 => by
    have h1 := numJ_len b S j
    have h2 := bitM_len b (numJ b S j).2
    show (bitM b (numJ b S j).2).2.o.length ≤ _
    omega
def mustM (S : RS) (ok : Bool) (e : Int) : RS := if S.fl = 0 ∧ ok = false then ⟨e, S.u, S.o⟩ else S
end Bw
end Go.Proofs.YtemohjamcdkcmaaGreatDoor
namespace Go.Proofs.YtemohjamcdkcmaaGreatDoor
namespace Bw
open Bm Cm

/-- the same fault, and where there is none the same -/
def Eqv (S S' : RS) : Prop := S.fl = S'.fl ∧ (S.fl = 0 → S = S')
theorem Eqv.refl (S : RS) : Eqv S S := ⟨rfl, fun _ => rfl⟩
/-- what was taken is what is taken of so many -/
def Good (b : List UInt8) (S : RS) : Prop := S.fl = 0 → takeG b S.o.length 0 [] = (S.o, S.u, 0)
theorem Good.start (b : List UInt8) : Good b ⟨0, 0, []⟩ := fun _ => rfl
theorem Good.fail {b : List UInt8} {S : RS} (h : Good b S) {e : Int} (he : e ≠ 0) : Good b (failP S e) := by
  unfold failP
  split
  · intro h0; exact absurd h0 he
  · exact h
theorem Good.take {b : List UInt8} {S : RS} (h : Good b S) (n : Nat) : Good b (takeP b S n).2 := by
  unfold takeP
  split
  · split
    · rename_i h1
      intro _
      have hl := takeG_len b _ h1
      show takeG b (takeG b (S.o.length + n) 0 []).1.length 0 [] = _
      rw [hl]
      generalize takeG b (S.o.length + n) 0 [] = A at *
      obtain ⟨x, y, z⟩ := A
      simp only at h1 ⊢
      rw [h1]
    · rename_i h1
      intro h2; exact absurd h2 h1
  · exact h
theorem Good.wstep {b : List UInt8} {S : RS} (h : Good b S) (c : UInt8) : Good b (Bw.wstep b S c) := by
  unfold Bw.wstep
  split
  · exact h.take 1
  · exact (h.take 1).fail (by decide)
theorem takeP_bad {b : List UInt8} {S : RS} (h : S.fl ≠ 0) (n : Nat) : takeP b S n = ([], S) := by unfold takeP; rw [if_neg h]
theorem failP_bad {S : RS} (h : S.fl ≠ 0) (e : Int) : failP S e = S := by unfold failP; rw [if_neg h]
theorem bitM_bad {b : List UInt8} {S : RS} (h : S.fl ≠ 0) : bitM b S = (48, S) := by unfold bitM; rw [if_neg h]
theorem mustM_bad {S : RS} (h : S.fl ≠ 0) (ok : Bool) (e : Int) : mustM S ok e = S := by unfold mustM; rw [if_neg (fun x => h x.1)]
theorem wstep_bad {b : List UInt8} {S : RS} (h : S.fl ≠ 0) (c : UInt8) : Bw.wstep b S c = S := by
  unfold Bw.wstep; rw [takeP_bad h, if_neg (by simp)]; exact failP_bad h 4
theorem wantP_bad {b : List UInt8} {S : RS} (h : S.fl ≠ 0) (l : List UInt8) : wantP b S l = S := by
  unfold wantP
  induction l with
  | nil => rfl
  | cons c l ih => rw [List.foldl_cons, wstep_bad h]; exact ih
theorem nextP_bad {b : List UInt8} {S : RS} (h : S.fl ≠ 0) (n : Nat) : nextP b S n = ([], S) := by unfold nextP; rw [if_neg h]
theorem numJ_bad {b : List UInt8} {S : RS} (h : S.fl ≠ 0) : ∀ n, (numJ b S n).2 = S
  | 0 => rfl
  | n + 1 => by show (bitM b (numJ b S n).2).2 = S; rw [numJ_bad h n, bitM_bad h]
/-- one bit: the same behind it; and where nothing is wrong, the same bit -/
theorem bit_take (b : List UInt8) (S : RS) : (takeP b S 1).2 = (bitM b S).2 ∧ ((bitM b S).2.fl = 0 → (takeP b S 1).1 = [(bitM b S).1]) := by
  unfold takeP bitM
  by_cases h : S.fl = 0
  · rw [if_pos h, if_pos h]
    by_cases h1 : (takeG b (S.o.length + 1) 0 []).2.2 = 0
    · rw [if_pos h1, if_pos h1]
      refine ⟨rfl, fun _ => ?_⟩
      have hl := takeG_len b _ h1
      show List.drop _ _ = [_]
      generalize (takeG b (S.o.length + 1) 0 []).1 = x at *
      rw [List.drop_eq_getElem_cons (by omega), List.drop_of_length_le (by omega)]
      simp [List.getD, show S.o.length < x.length by omega]
    · rw [if_neg h1, if_neg h1]
      exact ⟨rfl, fun h2 => absurd h2 h1⟩
  · rw [if_neg h, if_neg h]
    exact ⟨rfl, fun h2 => absurd h2 h⟩
theorem takeG_more (b : List UInt8) : ∀ (n m u : Nat) (o : List UInt8), (takeG b n u o).2.2 ≠ 0 → takeG b (n + m) u o = takeG b n u o
  | 0, _, _, _, h => absurd rfl h
  | n + 1, m, u, o, h => by
    rw [show n + 1 + m = (n + m) + 1 by omega]
    rw [takeG] at h ⊢
    rw [takeG]
    split
    · rfl
    · rename_i h1
      rw [if_neg h1] at h
      split
      · rename_i h2
        rw [if_pos h2] at h
        split
        · rfl
        · rename_i h3
          rw [if_neg h3] at h
          split
          · rfl
          · rename_i h4
            rw [if_neg h4] at h
            exact takeG_more b n m _ _ h
      · rename_i h2
        rw [if_neg h2] at h
        exact takeG_more b n m _ _ h
/-- one bit more -/
theorem take_succ (b : List UInt8) (S : RS) (n : Nat) : (takeP b S (n + 1)).2.fl = (bitM b (takeP b S n).2).2.fl ∧
    ((takeP b S (n + 1)).2.fl = 0 → (takeP b S (n + 1)).2 = (bitM b (takeP b S n).2).2 ∧ (takeP b S (n + 1)).1 = (takeP b S n).1 ++ [(bitM b (takeP b S n).2).1]) := by
  by_cases h : S.fl = 0
  · have e1 : ∀ k, takeP b S k = if (takeG b (S.o.length + k) 0 []).2.2 = 0 then ((takeG b (S.o.length + k) 0 []).1.drop S.o.length, ⟨0, (takeG b (S.o.length + k) 0 []).2.1, (takeG b (S.o.length + k) 0 []).1⟩) else ([], ⟨(takeG b (S.o.length + k) 0 []).2.2, S.u, S.o⟩) := by
      intro k; unfold takeP; rw [if_pos h]
    by_cases h1 : (takeG b (S.o.length + n) 0 []).2.2 = 0
    · have hl := takeG_len b _ h1
      have e2 : takeP b S n = ((takeG b (S.o.length + n) 0 []).1.drop S.o.length, ⟨0, (takeG b (S.o.length + n) 0 []).2.1, (takeG b (S.o.length + n) 0 []).1⟩) := by rw [e1, if_pos h1]
      have hs := takeG_split b 1 (S.o.length + n) 0 []
      rw [e1 (n + 1), e2]
      unfold bitM
      simp only
      rw [if_pos trivial, hl, ← Nat.add_assoc]
      by_cases h2 : (takeG b (S.o.length + n + 1) 0 []).2.2 = 0
      · rw [if_pos h2, if_pos h2]
        refine ⟨rfl, fun _ => ⟨rfl, ?_⟩⟩
        have hl2 := takeG_len b _ h2
        obtain ⟨s, k, hk1, hk2⟩ := hs (takeG b (S.o.length + n + 1) 0 []).1 (takeG b (S.o.length + n + 1) 0 []).2.1 (by
          conv => lhs; rw [show S.o.length + n + 1 = (S.o.length + n) + 1 by omega]
          generalize takeG b (S.o.length + n + 1) 0 [] = A at *
          obtain ⟨x, y, z⟩ := A
          simp only at h2 ⊢
          rw [h2])
        rw [hk1] at hl
        have hp := (takeG_ok b 1 _ _ _ _ hk2).2.2
        rw [hk1]
        simp only at hl ⊢
        obtain ⟨t, ht⟩ := hp
        have htl : t.length = 1 := by
          have := congrArg List.length ht
          rw [List.length_append, hl, hl2] at this
          omega
        obtain ⟨c, rfl⟩ := List.length_eq_one_iff.1 htl
        rw [← ht, List.drop_append_of_le_length (by omega)]
        congr 2
        rw [← hl]
        simp [List.getD]
      · rw [if_neg h2, if_neg h2]
        exact ⟨rfl, fun h3 => absurd h3 h2⟩
    · have h2 := takeG_more b (S.o.length + n) 1 0 [] h1
      have e2 : takeP b S n = ([], ⟨(takeG b (S.o.length + n) 0 []).2.2, S.u, S.o⟩) := by rw [e1, if_neg h1]
      have e3 : takeP b S (n + 1) = ([], ⟨(takeG b (S.o.length + n) 0 []).2.2, S.u, S.o⟩) := by
        rw [e1, ← Nat.add_assoc, h2, if_neg h1]
      rw [e2, e3, bitM_bad h1]
      exact ⟨rfl, fun h3 => absurd h3 h1⟩
  · rw [takeP_bad h, takeP_bad h, bitM_bad h]
    exact ⟨rfl, fun h3 => absurd h3 h⟩
theorem take_zero (b : List UInt8) (S : RS) (hG : Good b S) : takeP b S 0 = ([], S) := by
  by_cases h : S.fl = 0
  · unfold takeP
    rw [if_pos h, Nat.add_zero, hG h]
    obtain ⟨fl, u, o⟩ := S
    simp only at h
    subst h
    simp
  · exact takeP_bad h 0
theorem bitM_eqv {b : List UInt8} {S S' : RS} (h : Eqv S S') : Eqv (bitM b S).2 (bitM b S').2 ∧ ((bitM b S).2.fl = 0 → (bitM b S).1 = (bitM b S').1) := by
  by_cases h0 : S.fl = 0
  · rw [h.2 h0]; exact ⟨Eqv.refl _, fun _ => rfl⟩
  · have h1 : S'.fl ≠ 0 := by rw [← h.1]; exact h0
    rw [bitM_bad h0, bitM_bad h1]
    exact ⟨h, fun _ => rfl⟩
theorem num_eqv {b : List UInt8} {S S' : RS} (hG : Good b S) (h : Eqv S S') : ∀ n, Eqv (numP b S n).2 (numJ b S' n).2 ∧ ((numP b S n).2.fl = 0 → (numP b S n).1 = (numJ b S' n).1)
  | 0 => by
    unfold numP
    rw [take_zero b S hG]
    exact ⟨h, fun _ => rfl⟩
  | n + 1 => by
    obtain ⟨h1, h2⟩ := num_eqv hG h n
    obtain ⟨g1, g2⟩ := take_succ b S n
    obtain ⟨q1, q2⟩ := bitM_eqv (b := b) h1
    have e : (numP b S n).2 = (takeP b S n).2 := rfl
    rw [e] at q1 q2 h2
    refine ⟨⟨g1.trans q1.1, fun h0 => ?_⟩, fun h0 => ?_⟩
    · have h0' : (takeP b S (n + 1)).2.fl = 0 := h0
      have := (g2 h0').1
      show (takeP b S (n + 1)).2 = (bitM b (numJ b S' n).2).2
      rw [this]
      exact q1.2 (by rw [← this]; exact h0')
    · have h0' : (takeP b S (n + 1)).2.fl = 0 := h0
      obtain ⟨k1, k2⟩ := g2 h0'
      have hz : (bitM b (takeP b S n).2).2.fl = 0 := by rw [← k1]; exact h0'
      have hz2 : (takeP b S n).2.fl = 0 := by
        rcases Classical.em ((takeP b S n).2.fl = 0) with x | x
        · exact x
        · rw [bitM_bad x] at hz; exact hz
      show val (takeP b S (n + 1)).1 = 2 * (numJ b S' n).1 + dig (bitM b (numJ b S' n).2).1
      rw [k2, val_snoc, q2 hz]
      have := h2 hz2
      unfold numP at this
      simp only at this
      rw [this]
end Bw
end Go.Proofs.YtemohjamcdkcmaaGreatDoor
namespace Go.Proofs.YtemohjamcdkcmaaGreatDoor
namespace Bw
open Bm Cm

theorem mustM_eq (S : RS) (ok : Bool) (e : Int) : mustM S ok e = if ok = true then S else failP S e := by
  unfold mustM failP
  cases ok <;> by_cases h : S.fl = 0 <;> simp [h]
/-- a bit that must be -/
def wj (b : List UInt8) (S : RS) (c : UInt8) : RS := mustM (bitM b S).2 ((bitM b S).1 == c) 4
theorem bit_is (b : List UInt8) (S : RS) (c : UInt8) (hc : c ≠ 48) : (takeP b S 1).1 = [c] ↔ (bitM b S).1 = c := by
  obtain ⟨h1, h2⟩ := bit_take b S
  by_cases h0 : (bitM b S).2.fl = 0
  · rw [h2 h0]; simp
  · have e1 : (bitM b S).1 = 48 := by
      unfold bitM at h0 ⊢
      split
      · rename_i h
        rw [if_pos h] at h0
        split
        · rename_i h'; rw [if_pos h'] at h0; exact absurd rfl h0
        · rfl
      · rfl
    have e2 : (takeP b S 1).1 = [] := by
      rw [← h1] at h0
      unfold takeP at h0 ⊢
      split
      · rename_i h
        rw [if_pos h] at h0
        split
        · rename_i h'; rw [if_pos h'] at h0; exact absurd rfl h0
        · rfl
      · rfl
    rw [e1, e2]
    simp [Ne.symm hc]
theorem wj_eq (b : List UInt8) (S : RS) (c : UInt8) : wstep b S c = wj b S c := by
  obtain ⟨h1, h2⟩ := bit_take b S
  unfold wstep wj
  rw [mustM_eq, h1]
  by_cases h0 : (bitM b S).2.fl = 0
  · rw [h2 h0]; simp
  · rw [failP_bad h0]; simp
theorem wj_bad {b : List UInt8} {S : RS} (h : S.fl ≠ 0) (c : UInt8) : wj b S c = S := by rw [← wj_eq]; exact wstep_bad h c
/-- so many bits, one by one -/
def tJ (b : List UInt8) (S : RS) : Nat → List UInt8 × RS
  | 0 => ([], S)
  | j + 1 => ((tJ b S j).1 ++ [(bitM b (tJ b S j).2).1], (bitM b (tJ b S j).2).2)
theorem tJ_len (b : List UInt8) (S : RS) : ∀ n, (tJ b S n).1.length = n
  | 0 => rfl
  | n + 1 => by rw [tJ, List.length_append, tJ_len b S n]; rfl
theorem tJ_bad {b : List UInt8} {S : RS} (h : S.fl ≠ 0) : ∀ n, (tJ b S n).2 = S
  | 0 => rfl
  | n + 1 => by show (bitM b (tJ b S n).2).2 = S; rw [tJ_bad h n, bitM_bad h]
theorem numJ_tJ (b : List UInt8) (S : RS) : ∀ n, numJ b S n = (val (tJ b S n).1, (tJ b S n).2)
  | 0 => rfl
  | n + 1 => by rw [numJ, tJ, numJ_tJ b S n, val_snoc]
theorem tJ_add (b : List UInt8) (S : RS) (m : Nat) : ∀ n, tJ b S (m + n) = ((tJ b S m).1 ++ (tJ b (tJ b S m).2 n).1, (tJ b (tJ b S m).2 n).2)
  | 0 => by simp [tJ]
  | n + 1 => by rw [← Nat.add_assoc, tJ, tJ, tJ_add b S m n]; simp
theorem take_tJ {b : List UInt8} {S : RS} (hG : Good b S) : ∀ n, Eqv (takeP b S n).2 (tJ b S n).2 ∧ ((takeP b S n).2.fl = 0 → (takeP b S n).1 = (tJ b S n).1)
  | 0 => by rw [take_zero b S hG]; exact ⟨Eqv.refl _, fun _ => rfl⟩
  | n + 1 => by
    obtain ⟨h1, h2⟩ := take_tJ hG n
    obtain ⟨g1, g2⟩ := take_succ b S n
    obtain ⟨q1, q2⟩ := bitM_eqv (b := b) h1
    refine ⟨⟨g1.trans q1.1, fun h0 => ?_⟩, fun h0 => ?_⟩
    · have := (g2 h0).1
      show (takeP b S (n + 1)).2 = (bitM b (tJ b S n).2).2
      rw [this]
      exact q1.2 (by rw [← this]; exact h0)
    · obtain ⟨k1, k2⟩ := g2 h0
      have hz : (bitM b (takeP b S n).2).2.fl = 0 := by rw [← k1]; exact h0
      have hz2 : (takeP b S n).2.fl = 0 := by
        rcases Classical.em ((takeP b S n).2.fl = 0) with x | x
        · exact x
        · rw [bitM_bad x] at hz; exact hz
      show (takeP b S (n + 1)).1 = (tJ b S n).1 ++ [(bitM b (tJ b S n).2).1]
      rw [k2, q2 hz, h2 hz2]

def jA (b : List UInt8) (S : RS) : RS := wj b S 48
def jN (b : List UInt8) (S : RS) : Nat × RS := numJ b (jA b S) 11
def jF (b : List UInt8) (S : RS) : UInt8 × RS := bitM b (jN b S).2
def jL (b : List UInt8) (S : RS) : UInt8 × RS := bitM b (jF b S).2
def j5 (b : List UInt8) (S : RS) : RS := mustM (jL b S).2 ((jF b S).1 == 49) 4
def jM (b : List UInt8) (S : RS) : Nat × RS := numJ b (j5 b S) 18
def jR (b : List UInt8) (S : RS) : UInt8 × RS := bitM b (jM b S).2
def nameJ (b : List UInt8) (S : RS) : NmR :=
  if (jL b S).1 = 49 then ⟨(jR b S).2, (jN b S).1 * 262144 + (jM b S).1, true, decide ((jR b S).1 = 49)⟩
  else ⟨(jL b S).2, (jN b S).1, false, decide ((jF b S).1 = 49)⟩
def formJ (b : List UInt8) (S : RS) (lo re : Bool) : RS × Bool :=
  if (bitM b S).1 = 49 then (wj b (wj b (wj b (mustM (bitM b S).2 (!re) 4) 48) 49) 48, true)
  else (if lo then wj b (bitM b S).2 48 else (bitM b S).2, false)
def dj2 (b : List UInt8) (S : RS) (fa : Bool) : RS := mustM (numJ b S 4).2 (fa || decide ((numJ b S 4).1 ≤ 8)) 4
def dlJ (b : List UInt8) (S : RS) : Nat → RS × List UInt8
  | 0 => (S, [])
  | j + 1 => if (dlJ b S j).1.fl = 0 then ((numJ b (dlJ b S j).1 8).2, (dlJ b S j).2 ++ [UInt8.ofNat (numJ b (dlJ b S j).1 8).1]) else dlJ b S j
def dataJ (b : List UInt8) (S : RS) (fa re : Bool) : DtR :=
  if re then ⟨dj2 b S fa, (numJ b S 4).1, []⟩
  else ⟨(dlJ b (dj2 b S fa) (sizesL.getD (numJ b S 4).1 0)).1, 0, (dlJ b (dj2 b S fa) (sizesL.getD (numJ b S 4).1 0)).2⟩
def sumJ (b : List UInt8) (S : RS) : RS := mustM (tJ b S 15).2 ((tJ b S 15).1 == sumL 0 S.o) 6
def fxB (g : List UInt8) (a : UInt8) (j : Nat) : UInt8 := if j = 0 then a else g.getD (5 * j - 1) 0
def fxJ (g : List UInt8) (a : UInt8) (S : RS) : Nat → RS
  | 0 => S
  | j + 1 => mustM (fxJ g a S j) (g.getD (5 * j) 0 != fxB g a j) 5
def fixedJ (b : List UInt8) (S : RS) (n : Nat) : RS :=
  mustM (fxJ (nextP b S (fastL S.o (b.take S.u) n).length).1 (lastB (b.take S.u)) (nextP b S (fastL S.o (b.take S.u) n).length).2 (((nextP b S (fastL S.o (b.take S.u) n).length).1.length + 4) / 5))
    ((nextP b S (fastL S.o (b.take S.u) n).length).1 == fastL S.o (b.take S.u) n) 6
def endJ (b : List UInt8) (S : RS) : RS := mustM (nextP b S 10).2 ((nextP b S 10).1 == onesL || (nextP b S 10).1 == heardL) 4
def jdA (b : List UInt8) : NmR := nameJ b ⟨0, 0, []⟩
def jdB (b : List UInt8) : RS × Bool := formJ b (jdA b).S (jdA b).lo (jdA b).re
def jdD (b : List UInt8) : DtR := dataJ b (jdB b).1 (jdB b).2 (jdA b).re
def jdS (b : List UInt8) : RS := if (jdD b).S.fl = 0 then (if (jdB b).2 then fixedJ b (jdD b).S (jdD b).dt.length else sumJ b (jdD b).S) else (jdD b).S
def jdE (b : List UInt8) : RS := endJ b (jdS b)
def jdF (b : List UInt8) : Fr := ⟨(jdA b).id, (jdA b).lo, (jdB b).2, (jdA b).re, (jdD b).sz, (jdD b).dt⟩

theorem name_same (b : List UInt8) (S : RS) (hG : Good b S) : Eqv (nameP b S).S (nameJ b S).S ∧ ((nameP b S).S.fl = 0 → nameP b S = nameJ b S) := by
  have a1 : nm1 b S = jA b S := by unfold nm1 jA wantP; exact wj_eq b S 48
  have g1 : Good b (nm1 b S) := by unfold nm1 wantP; exact hG.wstep 48
  obtain ⟨n1, n2⟩ := num_eqv g1 (Eqv.refl (nm1 b S)) 11
  have eN : jN b S = numJ b (nm1 b S) 11 := by unfold jN; rw [a1]
  by_cases h0 : (nmN b S).2.fl = 0
  · have hN : nmN b S = jN b S := by
      rw [eN]
      exact Prod.ext (n2 h0) (n1.2 h0)
    have gN : Good b (nmN b S).2 := g1.take 11
    have bF := bit_take b (nmN b S).2
    have hF : (nmF b S).2 = (jF b S).2 := by unfold nmF jF; rw [← hN]; exact bF.1
    have hF1 : (nmF b S).1 = [49] ↔ (jF b S).1 = 49 := by unfold nmF jF; rw [← hN]; exact bit_is b _ 49 (by decide)
    have hL : (nmL b S).2 = (jL b S).2 := by unfold nmL jL; rw [← hF]; exact (bit_take b _).1
    have hL1 : (nmL b S).1 = [49] ↔ (jL b S).1 = 49 := by unfold nmL jL; rw [← hF]; exact bit_is b _ 49 (by decide)
    have gF : Good b (nmF b S).2 := gN.take 1
    have gL : Good b (nmL b S).2 := gF.take 1
    have h5 : nm5 b S = j5 b S := by
      unfold nm5 j5
      rw [mustM_eq, ← hL]
      by_cases hx : (jF b S).1 = 49
      · rw [if_pos (hF1.2 hx), if_pos (by simpa using hx)]
      · rw [if_neg (fun y => hx (hF1.1 y)), if_neg (by simpa using hx)]
    unfold nameP nameJ
    by_cases hl : (jL b S).1 = 49
    · rw [if_pos (hL1.2 hl), if_pos hl]
      have g5 : Good b (nm5 b S) := by unfold nm5; split; exact gL; exact gL.fail (by decide)
      obtain ⟨m1, m2⟩ := num_eqv g5 (Eqv.refl (nm5 b S)) 18
      have eM : jM b S = numJ b (nm5 b S) 18 := by unfold jM; rw [h5]
      by_cases hm : (nmM b S).2.fl = 0
      · have hM : nmM b S = jM b S := by rw [eM]; exact Prod.ext (m2 hm) (m1.2 hm)
        have hR : (nmR b S).2 = (jR b S).2 := by unfold nmR jR; rw [← hM]; exact (bit_take b _).1
        have hR1 : (nmR b S).1 = [49] ↔ (jR b S).1 = 49 := by unfold nmR jR; rw [← hM]; exact bit_is b _ 49 (by decide)
        simp only [hR, hN, hM, hR1]
        exact ⟨Eqv.refl _, fun _ => trivial⟩
      · have hm' : (jM b S).2.fl ≠ 0 := by rw [eM, ← m1.1]; exact hm
        have e1 : (nmR b S).2 = (nmM b S).2 := by unfold nmR; rw [takeP_bad hm]
        have e2 : (jR b S).2 = (jM b S).2 := by unfold jR; rw [bitM_bad hm']
        simp only [e1, e2]
        refine ⟨?_, fun h => absurd h hm⟩
        rw [eM]; exact m1
    · rw [if_neg (fun y => hl (hL1.1 y)), if_neg hl]
      simp only [hL, hN, hF1]
      exact ⟨Eqv.refl _, fun _ => trivial⟩
  · have h0' : (jN b S).2.fl ≠ 0 := by rw [eN, ← n1.1]; exact h0
    have e1 : nmF b S = ([], (nmN b S).2) := by unfold nmF; rw [takeP_bad h0]
    have e2 : nmL b S = ([], (nmN b S).2) := by unfold nmL; rw [e1, takeP_bad h0]
    have e3 : jF b S = (48, (jN b S).2) := by unfold jF; rw [bitM_bad h0']
    have e4 : jL b S = (48, (jN b S).2) := by unfold jL; rw [e3, bitM_bad h0']
    unfold nameP nameJ
    rw [e2, e4, if_neg (by simp), if_neg (by simp)]
    refine ⟨?_, fun h => absurd h h0⟩
    rw [eN]; exact n1

theorem form_same (b : List UInt8) (S : RS) (lo re : Bool) : formP b S lo re = formJ b S lo re := by
  unfold formP formJ
  rw [(bit_take b S).1]
  by_cases h : (bitM b S).1 = 49
  · rw [if_pos ((bit_is b S 49 (by decide)).2 h), if_pos h]
    cases re
    · have e : mustM (bitM b S).2 (!false) 4 = (bitM b S).2 := by rw [mustM_eq]; rfl
      rw [e]
      simp only [Bool.false_eq_true, if_false, wantP, List.foldl_cons, List.foldl_nil, wj_eq]
    · simp only [if_true]
      have e : mustM (bitM b S).2 (!true) 4 = failP (bitM b S).2 4 := by rw [mustM_eq]; rfl
      have hf : (failP (bitM b S).2 4).fl ≠ 0 := by
        unfold failP
        split
        · simp
        · assumption
      rw [e, wj_bad hf, wj_bad hf, wj_bad hf]
  · rw [if_neg (fun y => h ((bit_is b S 49 (by decide)).1 y)), if_neg h]
    cases lo
    · rfl
    · simp only [if_true, wantP, List.foldl_cons, List.foldl_nil, wj_eq]

theorem bytesL_app (x y : List UInt8) (j : Nat) (hx : x.length = 8 * j) (hy : y.length = 8) : bytesL (x ++ y) = bytesL x ++ [UInt8.ofNat (val y)] := by
  unfold bytesL
  have e1 : (x ++ y).length / 8 = j + 1 := by rw [List.length_append]; omega
  have e2 : x.length / 8 = j := by omega
  rw [e1, e2, List.range_succ, List.map_append, List.map_singleton]
  congr 1
  · apply List.map_congr_left
    intro i hi
    have hi' : i < j := by simpa using hi
    unfold byteAt
    rw [List.drop_append_of_le_length (by omega), List.take_append_of_le_length (by rw [List.length_drop]; omega)]
  · unfold byteAt
    rw [← hx, List.drop_left, List.take_of_length_le (by omega)]
theorem dlJ_tJ (b : List UInt8) (S : RS) : ∀ j, (dlJ b S j).1.fl = (tJ b S (8 * j)).2.fl ∧ ((dlJ b S j).1.fl = 0 → dlJ b S j = ((tJ b S (8 * j)).2, bytesL (tJ b S (8 * j)).1))
  | 0 => ⟨rfl, fun _ => by simp [dlJ, tJ, bytesL]⟩
  | j + 1 => by
    obtain ⟨h1, h2⟩ := dlJ_tJ b S j
    rw [show 8 * (j + 1) = 8 * j + 8 by omega, tJ_add, dlJ]
    by_cases h0 : (dlJ b S j).1.fl = 0
    · rw [if_pos h0, h2 h0]
      simp only [numJ_tJ]
      refine ⟨trivial, fun _ => ?_⟩
      rw [bytesL_app _ _ j (tJ_len _ _ _) (tJ_len _ _ _)]
    · rw [if_neg h0]
      have h0' : (tJ b S (8 * j)).2.fl ≠ 0 := by rw [← h1]; exact h0
      refine ⟨?_, fun h => absurd h h0⟩
      show _ = (tJ b (tJ b S (8 * j)).2 8).2.fl
      rw [tJ_bad h0', h1]
theorem sizes16 : ∀ n : Fin 16, ∀ fa : Bool, (decide (topD fa < sizesL.getD n.1 0)) = !(fa || decide (n.1 ≤ 8)) := by decide +kernel
theorem data_same (b : List UInt8) (hb : rowB b = true) (S : RS) (fa re : Bool) (hG : Good b S) (hf : ¬ (fa = true ∧ re = true)) : Eqv (dataP b S fa re).S (dataJ b S fa re).S ∧ ((dataP b S fa re).S.fl = 0 → dataP b S fa re = dataJ b S fa re) := by
  obtain ⟨n1, n2⟩ := num_eqv hG (Eqv.refl S) 4
  by_cases h0 : (numP b S 4).2.fl = 0
  · have hN : numP b S 4 = numJ b S 4 := Prod.ext (n2 h0) (n1.2 h0)
    have hlt := numP_lt b hb S 4
    have h16 := sizes16 ⟨(numP b S 4).1, by omega⟩ fa
    simp only at h16
    have h2 : dt2 b S fa = dj2 b S fa := by
      unfold dt2 dj2 dtN
      rw [mustM_eq, ← hN]
      by_cases hx : topD fa < sizesL.getD (numP b S 4).1 0
      · rw [if_pos hx]
        have : (fa || decide ((numP b S 4).1 ≤ 8)) = false := by rw [decide_eq_true hx] at h16; simpa using h16.symm
        rw [this]; rfl
      · rw [if_neg hx]
        have : (fa || decide ((numP b S 4).1 ≤ 8)) = true := by rw [decide_eq_false hx] at h16; revert h16; cases (fa || decide ((numP b S 4).1 ≤ 8)) <;> simp
        rw [this]; rfl
    have hd : dtN b S = sizesL.getD (numJ b S 4).1 0 := by unfold dtN; rw [hN]
    unfold dataP dataJ
    cases re
    · simp only [Bool.false_eq_true, if_false]
      have g2 : Good b (dt2 b S fa) := by
        unfold dt2
        split
        · exact (hG.take 4).fail (by decide)
        · exact hG.take 4
      obtain ⟨t1, t2⟩ := take_tJ g2 (8 * dtN b S)
      obtain ⟨d1, d2⟩ := dlJ_tJ b (dj2 b S fa) (sizesL.getD (numJ b S 4).1 0)
      rw [← hd, ← h2] at d1 d2 ⊢
      refine ⟨⟨t1.1.trans d1.symm, fun h => ?_⟩, fun h => ?_⟩
      · have hz : (dlJ b (dt2 b S fa) (dtN b S)).1.fl = 0 := by rw [d1, ← t1.1]; exact h
        rw [d2 hz]; exact t1.2 h
      · have hz : (dlJ b (dt2 b S fa) (dtN b S)).1.fl = 0 := by rw [d1, ← t1.1]; exact h
        rw [d2 hz, t1.2 h, t2 h]
    · simp only [if_true, h2]
      refine ⟨Eqv.refl _, fun h => ?_⟩
      have hfa : fa = false := by cases fa; rfl; exact absurd ⟨rfl, rfl⟩ hf
      have hle : (numJ b S 4).1 ≤ 8 := by
        rcases Nat.lt_or_ge 8 (numJ b S 4).1 with hx | hx
        · exfalso
          unfold dj2 at h
          have : (fa || decide ((numJ b S 4).1 ≤ 8)) = false := by rw [hfa]; simp; omega
          rw [this, mustM_eq, if_neg (by decide)] at h
          unfold failP at h
          split at h
          · exact absurd h (by simp)
          · contradiction
        · exact hx
      rw [hd, sizes_small hle]
  · have h0' : (numJ b S 4).2.fl ≠ 0 := by rw [← n1.1]; exact h0
    have e1 : dt2 b S fa = (numP b S 4).2 := by unfold dt2; split; exact failP_bad h0 4; rfl
    have e2 : dj2 b S fa = (numJ b S 4).2 := by unfold dj2; rw [mustM_bad h0']
    have e3 : (dataP b S fa re).S = (numP b S 4).2 := by
      unfold dataP
      rw [e1]
      split
      · rfl
      · show (takeP b _ _).2 = _; rw [takeP_bad h0]
    have e4 : (dataJ b S fa re).S = (numJ b S 4).2 := by
      unfold dataJ
      rw [e2]
      have hdl : ∀ j, (dlJ b (numJ b S 4).2 j).1 = (numJ b S 4).2 := by
        intro j
        induction j with
        | zero => rfl
        | succ j ih => rw [dlJ, ih, if_neg h0', ih]
      split
      · rfl
      · exact hdl _
    rw [e3, e4]
    exact ⟨n1, fun h => absurd h h0⟩
theorem sum_same (b : List UInt8) (S : RS) (hG : Good b S) : Eqv (sumP b S) (sumJ b S) := by
  obtain ⟨t1, t2⟩ := take_tJ hG 15
  unfold sumP sumJ
  rw [mustM_eq]
  by_cases h0 : (takeP b S 15).2.fl = 0
  · rw [t2 h0, t1.2 h0]
    by_cases hx : (tJ b S 15).1 = sumL 0 S.o
    · rw [if_pos hx, if_pos (by simpa using hx)]; exact Eqv.refl _
    · rw [if_neg hx, if_neg (by simpa using hx)]; exact Eqv.refl _
  · have h0' : (tJ b S 15).2.fl ≠ 0 := by rw [← t1.1]; exact h0
    rw [failP_bad h0, failP_bad h0']
    simp only [ite_self]
    exact t1
end Bw
end Go.Proofs.YtemohjamcdkcmaaGreatDoor
namespace Go.Proofs.YtemohjamcdkcmaaGreatDoor
namespace Bw
open Bm Cm

/-- each fifth bit is another one than the one ahead of it -/
def okF : List UInt8 → Nat → UInt8 → Bool
  | [], _, _ => true
  | c :: l, i, a => (if i % 5 = 0 then c == otb a else true) && okF l (i + 1) c
theorem okF_eq : ∀ (g h : List UInt8) (i : Nat) (a : UInt8), okF g i a = true → okF h i a = true → g.length = h.length → unfixL g i = unfixL h i → g = h
  | [], [], _, _, _, _, _, _ => rfl
  | [], _ :: _, _, _, _, _, hl, _ => by simp at hl
  | _ :: _, [], _, _, _, _, hl, _ => by simp at hl
  | c :: g, d :: h, i, a, hg, hh, hl, hu => by
    rw [okF, Bool.and_eq_true] at hg hh
    rw [unfixL, unfixL] at hu
    have hl' : g.length = h.length := by simpa using hl
    by_cases h5 : i % 5 = 0
    · rw [if_pos h5] at hg hh
      rw [if_pos h5, if_pos h5] at hu
      have e1 : c = otb a := by simpa using hg.1
      have e2 : d = otb a := by simpa using hh.1
      subst e1; subst e2
      rw [okF_eq g h (i + 1) _ hg.2 hh.2 hl' hu]
    · rw [if_neg h5, if_neg h5] at hu
      injection hu with e1 e2
      subst e1
      rw [okF_eq g h (i + 1) _ hg.2 hh.2 hl' e2]
theorem okF_snoc : ∀ (x : List UInt8) (i : Nat) (a c : UInt8), okF (x ++ [c]) i a = (okF x i a && (if (i + x.length) % 5 = 0 then c == otb (x.getLastD a) else true))
  | [], i, a, c => by simp [okF]
  | d :: x, i, a, c => by
    rw [List.cons_append, okF, okF, okF_snoc x (i + 1) d c, Bool.and_assoc, List.length_cons, show i + 1 + x.length = i + (x.length + 1) by omega, List.getLastD_cons]
theorem fixR_lastD (l : List UInt8) (a : UInt8) : ∀ i, (fixR l a i).getLastD a = fixP l a i
  | 0 => rfl
  | i + 1 => by rw [fixR]; simp [fixP]
theorem okF_fixR (l : List UInt8) (a : UInt8) : ∀ i, okF (fixR l a i) 0 a = true
  | 0 => rfl
  | i + 1 => by
    have ih := okF_fixR l a i
    have hl : ∀ j, (fixR l a j).length = j + (j + 3) / 4 := by
      intro j
      induction j with
      | zero => rfl
      | succ j ihj => rw [fixR]; split <;> simp [ihj] <;> omega
    rw [fixR]
    by_cases h4 : i % 4 = 0
    · rw [if_pos h4, okF_snoc, okF_snoc, ih, fixR_lastD]
      have e2 : ¬ (0 + (fixR l a i ++ [otb (fixP l a i)]).length) % 5 = 0 := by simp [hl]; omega
      rw [if_neg e2]
      simp
    · rw [if_neg h4, okF_snoc, ih]
      have e2 : ¬ (0 + (fixR l a i).length) % 5 = 0 := by simp [hl]; omega
      rw [if_neg e2]; rfl
theorem unfix_len : ∀ (x : List UInt8) (i : Nat), (unfixL x i).length + (x.length + i + 4) / 5 = x.length + (i + 4) / 5
  | [], i => by simp [unfixL]
  | c :: x, i => by
    have ih := unfix_len x (i + 1)
    rw [unfixL]
    split
    · rw [List.length_cons]
      have e : x.length + 1 + i + 4 = x.length + (i + 1) + 4 := by omega
      rw [e]; omega
    · rw [List.length_cons, List.length_cons]
      have e : x.length + 1 + i + 4 = x.length + (i + 1) + 4 := by omega
      rw [e]; omega
theorem fix_is (g : List UInt8) (a : UInt8) (h1 : g.length % 5 ≠ 1) : g = fixL (unfixL g 0) a ↔ okF g 0 a = true := by
  constructor
  · intro h
    rw [h]; exact okF_fixR _ _ _
  · intro h
    refine okF_eq g _ 0 a h (okF_fixR _ _ _) ?_ (unfix_fixL _ _).symm
    have h2 := unfix_len g 0
    have h3 : (fixL (unfixL g 0) a).length = (unfixL g 0).length + ((unfixL g 0).length + 3) / 4 := (unfix_fix (unfixL g 0) a _ (Nat.le_refl _)).2
    rw [h3]
    rcases (by omega : g.length % 5 = 0 ∨ g.length % 5 = 2 ∨ g.length % 5 = 3 ∨ g.length % 5 = 4) with h | h | h | h <;> omega
theorem okF_idx : ∀ (g : List UInt8) (i : Nat) (a : UInt8), okF g i a = true ↔ ∀ k, k < g.length → (i + k) % 5 = 0 → g.getD k 0 = otb (if k = 0 then a else g.getD (k - 1) 0)
  | [], i, a => by simp [okF]
  | c :: g, i, a => by
    rw [okF, Bool.and_eq_true, okF_idx g (i + 1) c]
    constructor
    · rintro ⟨h1, h2⟩ k hk h5
      cases k with
      | zero =>
        rw [Nat.add_zero] at h5
        rw [if_pos h5] at h1
        simpa using h1
      | succ k =>
        have := h2 k (by simpa using hk) (by rw [← h5]; congr 1; omega)
        rw [if_neg (by omega)]
        show g.getD k 0 = _
        rw [this]
        cases k with
        | zero => rfl
        | succ k => rfl
    · intro h
      refine ⟨?_, fun k hk h5 => ?_⟩
      · split
        · rename_i h5
          have := h 0 (by simp) (by simpa using h5)
          simpa using this
        · rfl
      · have := h (k + 1) (by simpa using hk) (by rw [← h5]; congr 1; omega)
        rw [if_neg (by omega)] at this
        have e : (c :: g).getD (k + 1) 0 = g.getD k 0 := rfl
        rw [e] at this
        rw [this]
        cases k with
        | zero => rfl
        | succ k => rfl
theorem failP_fl (S : RS) {e : Int} (he : e ≠ 0) : (failP S e).fl ≠ 0 := by
  unfold failP
  split
  · exact he
  · assumption
theorem fxJ_eq (g : List UInt8) (a : UInt8) (S : RS) : ∀ j, fxJ g a S j = if (∀ k, k < j → g.getD (5 * k) 0 ≠ fxB g a k) then S else failP S 5
  | 0 => by simp [fxJ]
  | j + 1 => by
    rw [fxJ, fxJ_eq g a S j, mustM_eq]
    by_cases h1 : ∀ k, k < j → g.getD (5 * k) 0 ≠ fxB g a k
    · rw [if_pos h1]
      by_cases h2 : g.getD (5 * j) 0 = fxB g a j
      · rw [if_neg (by simp only [bne_iff_ne]; exact fun h => h h2), if_neg (fun h => h j (by omega) h2)]
      · rw [if_pos (by simpa using h2), if_pos]
        intro k hk
        rcases Nat.lt_or_ge k j with hkj | hkj
        · exact h1 k hkj
        · have : k = j := by omega
          subst this; exact h2
    · have hf : (failP S 5).fl ≠ 0 := failP_fl S (by decide)
      rw [if_neg h1, failP_bad hf, ite_self, if_neg (fun h => h1 fun k hk => h k (by omega))]
theorem u8_is {c : UInt8} (n : Nat) (h : (c.toNat : Int) = n) : c = UInt8.ofNat n := by
  have : c.toNat = n := by omega
  rw [← this]; exact UInt8.ofNat_toNat.symm
theorem bit_otb {c a : UInt8} (hc : bit c = true) (ha : bit a = true) : c = otb a ↔ c ≠ a := by
  rcases (bit_iff c).1 hc with h | h <;> rcases (bit_iff a).1 ha with h' | h'
  · rw [u8_is 48 h, u8_is 48 h']; decide
  · rw [u8_is 48 h, u8_is 49 h']; decide
  · rw [u8_is 49 h, u8_is 48 h']; decide
  · rw [u8_is 49 h, u8_is 49 h']; decide
theorem row_getD {g : List UInt8} (hg : rowB g = true) {k : Nat} (hk : k < g.length) : bit (g.getD k 0) = true := by
  rw [List.getD, List.getElem?_eq_getElem hk, Option.getD_some]
  exact rowB_all.1 hg _ (List.getElem_mem hk)
theorem fx_ok (g : List UInt8) (a : UInt8) (hg : rowB g = true) (ha : bit a = true) : (∀ k, k < (g.length + 4) / 5 → g.getD (5 * k) 0 ≠ fxB g a k) ↔ okF g 0 a = true := by
  rw [okF_idx]
  constructor
  · intro h k hk h5
    obtain ⟨q, rfl⟩ : ∃ q, k = 5 * q := ⟨k / 5, by omega⟩
    have h1 := h q (by omega)
    unfold fxB at h1
    by_cases hq : q = 0
    · subst hq
      rw [if_pos rfl] at h1
      rw [if_pos (by omega)]
      exact (bit_otb (row_getD hg hk) ha).2 h1
    · rw [if_neg hq] at h1
      rw [if_neg (by omega)]
      exact (bit_otb (row_getD hg hk) (row_getD hg (by omega))).2 h1
  · intro h k hk
    have h1 := h (5 * k) (by omega) (by omega)
    unfold fxB
    by_cases hq : k = 0
    · subst hq
      rw [if_pos (by omega)] at h1
      rw [if_pos rfl]
      exact (bit_otb (row_getD hg (by omega)) ha).1 h1
    · rw [if_neg (by omega)] at h1
      rw [if_neg hq]
      exact (bit_otb (row_getD hg (by omega)) (row_getD hg (by omega))).1 h1
theorem fast_len5 (h p : List UInt8) (n : Nat) : (fastL h p n).length % 5 ≠ 1 ∧ (fastL h p n).length ≤ 32 := by
  have h3 : (fastL h p n).length = (tailL h p n).length + ((tailL h p n).length + 3) / 4 := (unfix_fix (tailL h p n) (lastB p) _ (Nat.le_refl _)).2
  have h2 : (tailL h p n).length = 21 ∨ (tailL h p n).length = 25 := by
    rw [tailL_len]
    unfold endK
    split
    · right; rfl
    · left; rfl
  rw [h3]; omega
theorem next_lenE (b : List UInt8) (S : RS) (n : Nat) (h : (nextP b S n).2.fl = 0) : (nextP b S n).1.length = n := by
  unfold nextP at h ⊢
  split
  · rename_i h1
    rw [if_pos h1] at h
    split
    · rename_i h2; rw [if_pos h2] at h; exact absurd h (by simp)
    · simp; omega
  · rename_i h1; rw [if_neg h1] at h; exact absurd h h1
theorem fixed_same (b : List UInt8) (hb : rowB b = true) (S : RS) (n : Nat) (h0 : S.fl = 0) (hu : 0 < S.u) (hub : S.u ≤ b.length) : fixedP b S n = fixedJ b S n := by
  unfold fixedP fixedJ
  rw [if_pos h0]
  have hL := fast_len5 S.o (b.take S.u) n
  generalize fastL S.o (b.take S.u) n = W at *
  have hr := nextP_row b hb S W.length
  have hle := next_lenE b S W.length
  have ha : bit (lastB (b.take S.u)) = true := row_getD (rowB_take hb _) (by rw [List.length_take]; omega)
  generalize lastB (b.take S.u) = a at *
  generalize nextP b S W.length = N at *
  obtain ⟨g, T⟩ := N
  simp only at hr hle ⊢
  by_cases hT : T.fl = 0
  · have hgl := hle hT
    rw [fxJ_eq, mustM_eq]
    by_cases hok : okF g 0 a = true
    · rw [if_pos ((fix_is g a (by rw [hgl]; exact hL.1)).2 hok), if_pos ((fx_ok g a hr ha).2 hok)]
      by_cases hx : g = W
      · rw [if_pos hx, if_pos (by simpa using hx)]
      · rw [if_neg hx, if_neg (by simpa using hx)]
    · have hf : (failP T 5).fl ≠ 0 := failP_fl T (by decide)
      rw [if_neg (fun h => hok ((fix_is g a (by rw [hgl]; exact hL.1)).1 h)), if_neg (fun h => hok ((fx_ok g a hr ha).1 h)), failP_bad hf, ite_self]
  · rw [failP_bad hT, failP_bad hT, fxJ_eq, failP_bad hT, mustM_eq]
    simp only [ite_self, failP_bad hT]
theorem end_same (b : List UInt8) (S : RS) : endP b S = endJ b S := by
  unfold endP endJ
  rw [mustM_eq]
  by_cases h : (nextP b S 10).1 = onesL ∨ (nextP b S 10).1 = heardL
  · rw [if_pos h, if_pos (by simpa using h)]
  · rw [if_neg h, if_neg (by simpa using h)]
theorem end_bad {b : List UInt8} {S : RS} (h : S.fl ≠ 0) : endJ b S = S := by unfold endJ; rw [nextP_bad h, mustM_bad h]
theorem formJ_bad {b : List UInt8} {S : RS} (h : S.fl ≠ 0) (lo re : Bool) : (formJ b S lo re).1 = S := by
  unfold formJ
  rw [bitM_bad h, if_neg (by simp)]
  show (if lo = true then wj b S 48 else S) = S
  rw [wj_bad h, ite_self]
theorem dataJ_bad {b : List UInt8} {S : RS} (h : S.fl ≠ 0) (fa re : Bool) : (dataJ b S fa re).S = S := by
  have e2 : dj2 b S fa = S := by unfold dj2; rw [numJ_bad h, mustM_bad h]
  unfold dataJ
  rw [e2]
  have hdl : ∀ j, (dlJ b S j).1 = S := by
    intro j
    induction j with
    | zero => rfl
    | succ j ih => rw [dlJ, ih, if_neg h, ih]
  split
  · rfl
  · exact hdl _
theorem dataP_bad {b : List UInt8} {S : RS} (h : S.fl ≠ 0) (fa re : Bool) : (dataP b S fa re).S = S := by
  have e1 : (numP b S 4).2 = S := by unfold numP; rw [takeP_bad h]
  have e2 : dt2 b S fa = S := by unfold dt2; rw [e1]; split; exact failP_bad h 4; rfl
  unfold dataP
  rw [e2]
  split
  · rfl
  · show (takeP b _ _).2 = _; rw [takeP_bad h]
theorem sumP_bad {b : List UInt8} {S : RS} (h : S.fl ≠ 0) : sumP b S = S := by
  unfold sumP; rw [takeP_bad h]
  split
  · rfl
  · exact failP_bad h 6
theorem fixedP_bad {b : List UInt8} {S : RS} (h : S.fl ≠ 0) (n : Nat) : fixedP b S n = S := by unfold fixedP; rw [if_neg h]
theorem form_fast (b : List UInt8) (S : RS) (lo re : Bool) (h : (formJ b S lo re).1.fl = 0) : ¬ ((formJ b S lo re).2 = true ∧ re = true) := by
  rintro ⟨h1, rfl⟩
  unfold formJ at h h1
  split at h1
  · rename_i hx
    rw [if_pos hx] at h
    have e : mustM (bitM b S).2 (!true) 4 = failP (bitM b S).2 4 := by rw [mustM_eq]; rfl
    have hf : (failP (bitM b S).2 4).fl ≠ 0 := by
      unfold failP
      split
      · simp
      · assumption
    simp only [e] at h
    rw [wj_bad hf, wj_bad hf, wj_bad hf] at h
    exact hf h
  · exact absurd h1 (by simp)
theorem Good.name {b : List UInt8} {S : RS} (hG : Good b S) : Good b (nameP b S).S := by
  have g1 : Good b (nm1 b S) := by unfold nm1 wantP; exact hG.wstep 48
  have g2 : Good b (nmN b S).2 := g1.take 11
  have g3 : Good b (nmF b S).2 := g2.take 1
  have g4 : Good b (nmL b S).2 := g3.take 1
  have g5 : Good b (nm5 b S) := by unfold nm5; split; exact g4; exact g4.fail (by decide)
  have g6 : Good b (nmM b S).2 := g5.take 18
  have g7 : Good b (nmR b S).2 := g6.take 1
  unfold nameP
  split
  · exact g7
  · exact g4
theorem Good.want {b : List UInt8} : ∀ (l : List UInt8) {S : RS}, Good b S → Good b (wantP b S l)
  | [], _, h => h
  | c :: l, _, h => Good.want l (h.wstep c)
theorem Good.form {b : List UInt8} {S : RS} (hG : Good b S) (lo re : Bool) : Good b (formP b S lo re).1 := by
  unfold formP
  split
  · simp only
    split
    · exact (hG.take 1).fail (by decide)
    · exact Good.want _ (hG.take 1)
  · simp only
    split
    · exact Good.want _ (hG.take 1)
    · exact hG.take 1
theorem Good.data {b : List UInt8} {S : RS} (hG : Good b S) (fa re : Bool) : Good b (dataP b S fa re).S := by
  have g2 : Good b (dt2 b S fa) := by
    unfold dt2
    split
    · exact (hG.take 4).fail (by decide)
    · exact hG.take 4
  unfold dataP
  split
  · exact g2
  · exact g2.take _
/-- both ways of reading answer the same -/
theorem read_same (b : List UInt8) (hb : rowB b = true) (hU : (rdD b).S.fl = 0 → 0 < (rdD b).S.u ∧ (rdD b).S.u ≤ b.length) : (rdE b).fl = (jdE b).fl ∧ ((rdE b).fl = 0 → (rdE b).u = (jdE b).u ∧ rdF b = jdF b) := by
  obtain ⟨a1, a2⟩ := name_same b ⟨0, 0, []⟩ (Good.start b)
  have gA : Good b (rdA b).S := Good.name (Good.start b)
  by_cases hA : (rdA b).S.fl = 0
  · have eA : rdA b = jdA b := a2 hA
    have eB : rdB b = jdB b := by unfold rdB jdB; rw [eA]; exact form_same _ _ _ _
    have gB : Good b (rdB b).1 := gA.form _ _
    by_cases hB : (rdB b).1.fl = 0
    · have hf : ¬ ((rdB b).2 = true ∧ (rdA b).re = true) := by
        rw [eB, eA]
        exact form_fast b _ _ _ (by have := hB; rw [eB] at this; exact this)
      obtain ⟨d1, d2⟩ := data_same b hb (rdB b).1 (rdB b).2 (rdA b).re gB hf
      have gD : Good b (rdD b).S := gB.data _ _
      have hJD : jdD b = dataJ b (rdB b).1 (rdB b).2 (rdA b).re := by unfold jdD; rw [eB, eA]
      by_cases hD : (rdD b).S.fl = 0
      · have eD : rdD b = jdD b := by rw [hJD]; exact d2 hD
        have eS : Eqv (rdS b) (jdS b) := by
          unfold rdS jdS
          rw [← eD, ← eB, if_pos hD]
          split
          · rw [fixed_same b hb _ _ hD (hU hD).1 (hU hD).2]; exact Eqv.refl _
          · exact sum_same b _ gD
        have eE : Eqv (rdE b) (jdE b) := by
          unfold rdE jdE
          rw [end_same]
          by_cases h : (rdS b).fl = 0
          · rw [eS.2 h]; exact Eqv.refl _
          · have h' : (jdS b).fl ≠ 0 := by rw [← eS.1]; exact h
            rw [end_bad h, end_bad h']; exact eS
        refine ⟨eE.1, fun h => ⟨by rw [eE.2 h], ?_⟩⟩
        unfold rdF jdF
        rw [eA, eB, eD]
      · have hD' : (jdD b).S.fl ≠ 0 := by rw [hJD, ← d1.1]; exact hD
        have e1 : rdE b = (rdD b).S := by
          have : rdS b = (rdD b).S := by unfold rdS; split; exact fixedP_bad hD _; exact sumP_bad hD
          unfold rdE; rw [this, end_same, end_bad hD]
        have e2 : jdE b = (jdD b).S := by
          have : jdS b = (jdD b).S := by unfold jdS; rw [if_neg hD']
          unfold jdE; rw [this, end_bad hD']
        rw [e1, e2]
        exact ⟨by rw [hJD]; exact d1.1, fun h => absurd h hD⟩
    · have hB' : (jdB b).1.fl ≠ 0 := by rw [← eB]; exact hB
      have e0 : (rdD b).S = (rdB b).1 := dataP_bad hB _ _
      have e0' : (jdD b).S = (jdB b).1 := dataJ_bad hB' _ _
      have hD : (rdD b).S.fl ≠ 0 := by rw [e0]; exact hB
      have hD' : (jdD b).S.fl ≠ 0 := by rw [e0']; exact hB'
      have e1 : rdE b = (rdD b).S := by
        have : rdS b = (rdD b).S := by unfold rdS; split; exact fixedP_bad hD _; exact sumP_bad hD
        unfold rdE; rw [this, end_same, end_bad hD]
      have e2 : jdE b = (jdD b).S := by
        have : jdS b = (jdD b).S := by unfold jdS; rw [if_neg hD']
        unfold jdE; rw [this, end_bad hD']
      rw [e1, e2, e0, e0', eB]
      exact ⟨rfl, fun h => absurd h hB'⟩
  · have hA' : (jdA b).S.fl ≠ 0 := by
      have : (jdA b).S.fl = (rdA b).S.fl := a1.1.symm
      rw [this]; exact hA
    have b0 : (rdB b).1 = (rdA b).S := by unfold rdB; rw [form_same]; exact formJ_bad hA _ _
    have b0' : (jdB b).1 = (jdA b).S := formJ_bad hA' _ _
    have hB : (rdB b).1.fl ≠ 0 := by rw [b0]; exact hA
    have hB' : (jdB b).1.fl ≠ 0 := by rw [b0']; exact hA'
    have e0 : (rdD b).S = (rdB b).1 := dataP_bad hB _ _
    have e0' : (jdD b).S = (jdB b).1 := dataJ_bad hB' _ _
    have hD : (rdD b).S.fl ≠ 0 := by rw [e0]; exact hB
    have hD' : (jdD b).S.fl ≠ 0 := by rw [e0']; exact hB'
    have e1 : rdE b = (rdD b).S := by
      have : rdS b = (rdD b).S := by unfold rdS; split; exact fixedP_bad hD _; exact sumP_bad hD
      unfold rdE; rw [this, end_same, end_bad hD]
    have e2 : jdE b = (jdD b).S := by
      have : jdS b = (jdD b).S := by unfold jdS; rw [if_neg hD']
      unfold jdE; rw [this, end_bad hD']
    rw [e1, e2, e0, e0', b0, b0']
    exact ⟨a1.1, fun h => absurd h hA⟩
end Bw
end Go.Proofs.YtemohjamcdkcmaaGreatDoor
namespace Go.Proofs.YtemohjamcdkcmaaGreatDoor
namespace Bw
open Bm Cm
theorem Inv.bit {b : List UInt8} {S : RS} {n : Nat} (hb : rowB b = true) (h : Inv b S n) : Inv b (bitM b S).2 (n + 1) := by
  rw [← (bit_take b S).1]; exact h.take hb 1
theorem Inv.must {b : List UInt8} {S : RS} {n : Nat} (h : Inv b S n) (ok : Bool) (e : Int) : Inv b (mustM S ok e) n := by
  rw [mustM_eq]
  split
  · exact h
  · exact h.fail e
theorem Inv.wj {b : List UInt8} {S : RS} {n : Nat} (hb : rowB b = true) (h : Inv b S n) (c : UInt8) : Inv b (Bw.wj b S c) (n + 1) := (h.bit hb).must _ _
theorem Inv.tJ {b : List UInt8} {S : RS} {n : Nat} (hb : rowB b = true) (h : Inv b S n) : ∀ k, Inv b (Bw.tJ b S k).2 (n + k)
  | 0 => h
  | k + 1 => (Inv.tJ hb h k).bit hb
theorem Inv.numJ {b : List UInt8} {S : RS} {n : Nat} (hb : rowB b = true) (h : Inv b S n) (k : Nat) : Inv b (Bw.numJ b S k).2 (n + k) := by
  rw [numJ_tJ]; exact h.tJ hb k
theorem Inv.dlJ {b : List UInt8} {S : RS} {n : Nat} (hb : rowB b = true) (h : Inv b S n) : ∀ k, Inv b (Bw.dlJ b S k).1 (n + 8 * k)
  | 0 => h
  | k + 1 => by
    have ih := Inv.dlJ hb h k
    rw [Bw.dlJ]
    split
    · exact (ih.numJ hb 8).up (by omega)
    · exact ih.up (by omega)
theorem dlJ_len (b : List UInt8) (S : RS) : ∀ k, (Bw.dlJ b S k).2.length ≤ k
  | 0 => Nat.le_refl _
  | k + 1 => by
    have ih := dlJ_len b S k
    rw [Bw.dlJ]
    split
    · simp; omega
    · omega
/-- where nothing is wrong behind the data, all was read alike -/
theorem data_all (b : List UInt8) (hb : rowB b = true) (h : (jdD b).S.fl = 0) : rdA b = jdA b ∧ rdB b = jdB b ∧ rdD b = jdD b := by
  obtain ⟨a1, a2⟩ := name_same b ⟨0, 0, []⟩ (Good.start b)
  have gA : Good b (rdA b).S := Good.name (Good.start b)
  have hB : (jdB b).1.fl = 0 := by
    rcases Classical.em ((jdB b).1.fl = 0) with x | x
    · exact x
    · have : (jdD b).S = (jdB b).1 := dataJ_bad x _ _
      rw [this] at h; exact h
  have hA : (jdA b).S.fl = 0 := by
    rcases Classical.em ((jdA b).S.fl = 0) with x | x
    · exact x
    · have : (jdB b).1 = (jdA b).S := formJ_bad x _ _
      rw [this] at hB; exact hB
  have eA : rdA b = jdA b := a2 (by have : (rdA b).S.fl = (jdA b).S.fl := a1.1; exact this.trans hA)
  have eB : rdB b = jdB b := by unfold rdB jdB; rw [eA]; exact form_same _ _ _ _
  have gB : Good b (rdB b).1 := gA.form _ _
  have hf : ¬ ((rdB b).2 = true ∧ (rdA b).re = true) := by
    rw [eB, eA]
    exact form_fast b _ _ _ hB
  obtain ⟨d1, d2⟩ := data_same b hb (rdB b).1 (rdB b).2 (rdA b).re gB hf
  have hJD : jdD b = dataJ b (rdB b).1 (rdB b).2 (rdA b).re := by unfold jdD; rw [eB, eA]
  refine ⟨eA, eB, ?_⟩
  rw [hJD]
  refine d2 (d1.1.trans ?_)
  rw [← hJD]; exact h
end Bw
end Go.Proofs.YtemohjamcdkcmaaGreatDoor
namespace Go.Proofs.YtemohjamcdkcmaaGreatDoor
namespace Bw
open Bm Cm
theorem nameJ_inv (b : List UInt8) (hb : rowB b = true) : Inv b (jdA b).S 33 := by
  have i0 := Inv.start b
  have i2 : Inv b (jA b ⟨0, 0, []⟩) 1 := i0.wj hb 48
  have i3 : Inv b (jN b ⟨0, 0, []⟩).2 12 := i2.numJ hb 11
  have i4 : Inv b (jF b ⟨0, 0, []⟩).2 13 := i3.bit hb
  have i5 : Inv b (jL b ⟨0, 0, []⟩).2 14 := i4.bit hb
  have i6 : Inv b (j5 b ⟨0, 0, []⟩) 14 := i5.must _ _
  have i7 : Inv b (jM b ⟨0, 0, []⟩).2 32 := i6.numJ hb 18
  have i8 : Inv b (jR b ⟨0, 0, []⟩).2 33 := i7.bit hb
  unfold jdA nameJ
  split
  · exact i8
  · exact i5.up (by omega)
theorem formJ_inv (b : List UInt8) (hb : rowB b = true) : Inv b (jdB b).1 37 := by
  have i0 := nameJ_inv b hb
  have i1 := i0.bit hb
  unfold jdB formJ
  split
  · exact (((i1.must _ _).wj hb 48).wj hb 49).wj hb 48
  · simp only
    split
    · exact (i1.wj hb 48).up (by omega)
    · exact i1.up (by omega)
theorem dj2_inv (b : List UInt8) (hb : rowB b = true) (fa : Bool) : Inv b (dj2 b (jdB b).1 fa) 41 := ((formJ_inv b hb).numJ hb 4).must _ _
theorem num4_le (b : List UInt8) (hb : rowB b = true) (S : RS) : (numJ b S 4).1 ≤ 15 := by
  have := numJ_lt b hb S 4
  omega
theorem dataJ_inv (b : List UInt8) (hb : rowB b = true) : Inv b (jdD b).S 553 := by
  have i := dj2_inv b hb (jdB b).2
  have h64 : sizesL.getD (numJ b (jdB b).1 4).1 0 ≤ 64 := by
    have : ∀ m : Fin 16, sizesL.getD m.val 0 ≤ 64 := by decide +kernel
    exact this ⟨_, Nat.lt_succ_of_le (num4_le b hb (jdB b).1)⟩
  unfold jdD dataJ
  generalize sizesL.getD (numJ b (jdB b).1 4).1 0 = m at *
  cases (jdA b).re
  · have h := i.dlJ hb m
    simp only [Bool.false_eq_true, if_false]
    exact h.up (by omega)
  · simp only [if_true]
    exact i.up (by omega)
/-- behind the sum -/
def jd4 (b : List UInt8) : RS := if (jdD b).S.fl = 0 then (if (jdB b).2 then (jdD b).S else sumJ b (jdD b).S) else (jdD b).S
theorem jd4_S (b : List UInt8) : (if (jd4 b).fl = 0 then (if (jdB b).2 then fixedJ b (jd4 b) (jdD b).dt.length else jd4 b) else jd4 b) = jdS b := by
  unfold jd4 jdS
  by_cases h : (jdD b).S.fl = 0
  · rw [if_pos h, if_pos h]
    cases hf : (jdB b).2
    · simp
    · simp [h]
  · rw [if_neg h, if_neg h, if_neg h]
theorem jdS_inv (b : List UInt8) (hb : rowB b = true) : Inv b (jdS b) 568 := by
  have i := dataJ_inv b hb
  unfold jdS
  split
  · split
    · unfold fixedJ
      refine Inv.must ?_ _ _
      rw [fxJ_eq]
      split
      · exact (i.next _).up (by omega)
      · exact ((i.next _).fail 5).up (by omega)
    · exact (i.tJ hb 15).must _ _
  · exact i.up (by omega)
theorem jdU (b : List UInt8) (hb : rowB b = true) (h : (jdD b).S.fl = 0) : 1 ≤ (jdD b).S.u ∧ (jdD b).S.u ≤ 900 ∧ (jdD b).S.u ≤ b.length ∧ (jdD b).S.o.length ≤ (jdD b).S.u ∧ (jdD b).dt.length ≤ 64 := by
  obtain ⟨-, -, e⟩ := data_all b hb h
  have iA := name_inv hb (Inv.start b) Mst.start
  have iB := form_inv hb iA.1 iA.2.1 (rdA b).lo (rdA b).re
  have iD := data_inv hb iB.1 iB.2.1 (rdB b).2 (rdA b).re
  have hdl := data_len b hb (rdB b).1 (rdB b).2 (rdA b).re
  have h1 : Inv b (rdD b).S (0 + 33 + 4 + 516) := iD.1
  have h2 : Mst (rdD b).S := iD.2.1
  have h3 : Fed (rdD b).S := iD.2.2
  have h4 : (rdD b).dt.length ≤ 64 := hdl
  rw [e] at h1 h2 h3 h4
  have := h3 h
  unfold Mst at h2
  have a1 := h1.ou
  have a2 := h1.n
  have a3 := h1.u
  refine ⟨by omega, by omega, a3, a1, h4⟩
end Bw
end Go.Proofs.YtemohjamcdkcmaaGreatDoor
