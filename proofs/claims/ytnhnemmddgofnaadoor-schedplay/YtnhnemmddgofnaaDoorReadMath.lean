/- Reading a frame, as plain functions on lists: what is under way, part by part; of no program. -/
import Derived.Test.YtnhnemmddgofnaaDoorC2
import Derived.Test.YtnhnemmddgofnaaDoorC3
namespace Go.Proofs.YtnhnemmddgofnaaDoor
namespace Bw
open Bm Cm

/-- what is under way: the fault that was told, how many bits are read, what was taken -/
structure RS where
  fl : Int
  u : Nat
  o : List UInt8
def failP (S : RS) (e : Int) : RS := if S.fl = 0 then ⟨e, S.u, S.o⟩ else S
def takeP (b : List UInt8) (S : RS) (n : Nat) : List UInt8 × RS :=
  if S.fl = 0 then
    (if (takeG b (S.o.length + n) 0 []).2.2 = 0 then ((takeG b (S.o.length + n) 0 []).1.drop S.o.length, ⟨0, (takeG b (S.o.length + n) 0 []).2.1, (takeG b (S.o.length + n) 0 []).1⟩)
     else ([], ⟨(takeG b (S.o.length + n) 0 []).2.2, S.u, S.o⟩))
  else ([], S)
def numP (b : List UInt8) (S : RS) (n : Nat) : Nat × RS := (val (takeP b S n).1, (takeP b S n).2)
def wstep (b : List UInt8) (S : RS) (c : UInt8) : RS := if (takeP b S 1).1 = [c] then (takeP b S 1).2 else failP (takeP b S 1).2 4
def wantP (b : List UInt8) (S : RS) (l : List UInt8) : RS := l.foldl (wstep b) S
theorem wantP_snoc (b : List UInt8) (S : RS) (l : List UInt8) (c : UInt8) : wantP b S (l ++ [c]) = wstep b (wantP b S l) c := by simp [wantP]
/-- so many bits as they stand -/
def nextP (b : List UInt8) (S : RS) (n : Nat) : List UInt8 × RS :=
  if S.fl = 0 then (if b.length < S.u + n then ([], ⟨7, S.u, S.o⟩) else ((b.drop S.u).take n, ⟨0, S.u + n, S.o⟩)) else ([], S)

def nm1 (b : List UInt8) (S : RS) : RS := wantP b S [48]
def nmN (b : List UInt8) (S : RS) : Nat × RS := numP b (nm1 b S) 11
def nmF (b : List UInt8) (S : RS) : List UInt8 × RS := takeP b (nmN b S).2 1
def nmL (b : List UInt8) (S : RS) : List UInt8 × RS := takeP b (nmF b S).2 1
def nm5 (b : List UInt8) (S : RS) : RS := if (nmF b S).1 = [49] then (nmL b S).2 else failP (nmL b S).2 4
def nmM (b : List UInt8) (S : RS) : Nat × RS := numP b (nm5 b S) 18
def nmR (b : List UInt8) (S : RS) : List UInt8 × RS := takeP b (nmM b S).2 1
/-- what was read of a name -/
structure NmR where
  S : RS
  id : Nat
  lo : Bool
  re : Bool
def nameP (b : List UInt8) (S : RS) : NmR :=
  if (nmL b S).1 = [49] then ⟨(nmR b S).2, (nmN b S).1 * 262144 + (nmM b S).1, true, decide ((nmR b S).1 = [49])⟩
  else ⟨(nmL b S).2, (nmN b S).1, false, decide ((nmF b S).1 = [49])⟩
def formP (b : List UInt8) (S : RS) (lo re : Bool) : RS × Bool :=
  if (takeP b S 1).1 = [49] then (if re then failP (takeP b S 1).2 4 else wantP b (takeP b S 1).2 [48, 49, 48], true)
  else (if lo then wantP b (takeP b S 1).2 [48] else (takeP b S 1).2, false)
def topD (fa : Bool) : Nat := if fa then 64 else 8
def dtN (b : List UInt8) (S : RS) : Nat := sizesL.getD (numP b S 4).1 0
def dt2 (b : List UInt8) (S : RS) (fa : Bool) : RS := if topD fa < dtN b S then failP (numP b S 4).2 4 else (numP b S 4).2
/-- what was read of the data -/
structure DtR where
  S : RS
  sz : Nat
  dt : List UInt8
def dataP (b : List UInt8) (S : RS) (fa re : Bool) : DtR :=
  if re then ⟨dt2 b S fa, dtN b S, []⟩ else ⟨(takeP b (dt2 b S fa) (8 * dtN b S)).2, 0, bytesL (takeP b (dt2 b S fa) (8 * dtN b S)).1⟩
def sumP (b : List UInt8) (S : RS) : RS := if (takeP b S 15).1 = sumL 0 S.o then (takeP b S 15).2 else failP (takeP b S 15).2 6
/-- without each fifth, the first being one -/
def unfixL : List UInt8 → Nat → List UInt8
  | [], _ => []
  | c :: l, i => if i % 5 = 0 then unfixL l (i + 1) else c :: unfixL l (i + 1)
def fixedP (b : List UInt8) (S : RS) (n : Nat) : RS :=
  if S.fl = 0 then
    (if (nextP b S (fastL S.o (b.take S.u) n).length).1 = fixL (unfixL (nextP b S (fastL S.o (b.take S.u) n).length).1 0) (lastB (b.take S.u)) then
      (if (nextP b S (fastL S.o (b.take S.u) n).length).1 = fastL S.o (b.take S.u) n then (nextP b S (fastL S.o (b.take S.u) n).length).2 else failP (nextP b S (fastL S.o (b.take S.u) n).length).2 6)
     else failP (nextP b S (fastL S.o (b.take S.u) n).length).2 5)
  else S
def heardL : List UInt8 := [49, 48, 49, 49, 49, 49, 49, 49, 49, 49]
def endP (b : List UInt8) (S : RS) : RS := if (nextP b S 10).1 = onesL ∨ (nextP b S 10).1 = heardL then (nextP b S 10).2 else failP (nextP b S 10).2 4
def rdA (b : List UInt8) : NmR := nameP b ⟨0, 0, []⟩
def rdB (b : List UInt8) : RS × Bool := formP b (rdA b).S (rdA b).lo (rdA b).re
def rdD (b : List UInt8) : DtR := dataP b (rdB b).1 (rdB b).2 (rdA b).re
def rdS (b : List UInt8) : RS := if (rdB b).2 then fixedP b (rdD b).S (rdD b).dt.length else sumP b (rdD b).S
def rdE (b : List UInt8) : RS := endP b (rdS b)
def rdF (b : List UInt8) : Fr := ⟨(rdA b).id, (rdA b).lo, (rdB b).2, (rdA b).re, (rdD b).sz, (rdD b).dt⟩

theorem takeG_row (b : List UInt8) (hb : rowB b = true) : ∀ m u o, rowB o = true → rowB (takeG b m u o).1 = true
  | 0, _, _, ho => ho
  | m + 1, u, o, ho => by
    rw [takeG]
    split
    · rfl
    · rename_i h
      have hbit : bit (b.getD u 0) = true := by
        have hu : u < b.length := by omega
        rw [List.getD, List.getElem?_eq_getElem hu, Option.getD_some]
        exact rowB_all.1 hb _ (List.getElem_mem hu)
      have ho' : rowB (o ++ [b.getD u 0]) = true := by rw [rowB_snoc, ho, hbit]; rfl
      split
      · split
        · rfl
        · split
          · rfl
          · exact takeG_row b hb m _ _ ho'
      · exact takeG_row b hb m _ _ ho'
theorem takeG_len (b : List UInt8) (m : Nat) : (takeG b m 0 []).2.2 = 0 → (takeG b m 0 []).1.length = m := by
  intro h
  have := (takeG_ok b m 0 [] (takeG b m 0 []).1 (takeG b m 0 []).2.1 (by rw [← h])).1
  simpa using this

theorem takeG_in (b : List UInt8) : ∀ m u o, u ≤ b.length → o.length ≤ u → (takeG b m u o).2.2 = 0 → (takeG b m u o).2.1 ≤ b.length ∧ (takeG b m u o).1.length ≤ (takeG b m u o).2.1
  | 0, _, _, h1, h2, _ => ⟨h1, h2⟩
  | m + 1, u, o, h1, h2, h => by
    rw [takeG] at h ⊢
    split at h
    · cases h
    · rename_i hu
      rw [if_neg hu]
      split at h
      · rename_i h5
        rw [if_pos h5]
        split at h
        · cases h
        · rename_i hu2
          rw [if_neg hu2]
          split at h
          · cases h
          · rename_i h6
            rw [if_neg h6]
            exact takeG_in b m _ _ (by omega) (by simp; omega) h
      · rename_i h5
        rw [if_neg h5]
        exact takeG_in b m _ _ (by omega) (by simp; omega) h
/-- what is under way is right: a row, and no more than is there -/
structure Inv (b : List UInt8) (S : RS) (n : Nat) : Prop where
  row : rowB S.o = true
  u : S.u ≤ b.length
  ou : S.o.length ≤ S.u
  n : S.o.length ≤ n
theorem Inv.start (b : List UInt8) : Inv b ⟨0, 0, []⟩ 0 := ⟨rfl, Nat.zero_le _, Nat.le_refl _, Nat.le_refl _⟩
theorem Inv.up {b : List UInt8} {S : RS} {n m : Nat} (h : Inv b S n) (hm : n ≤ m) : Inv b S m := ⟨h.row, h.u, h.ou, Nat.le_trans h.n hm⟩
theorem Inv.fail {b : List UInt8} {S : RS} {n : Nat} (h : Inv b S n) (e : Int) : Inv b (failP S e) n := by
  unfold failP
  split
  · exact ⟨h.row, h.u, h.ou, h.n⟩
  · exact h
theorem Inv.take {b : List UInt8} {S : RS} {n : Nat} (hb : rowB b = true) (h : Inv b S n) (k : Nat) : Inv b (takeP b S k).2 (n + k) := by
  unfold takeP
  split
  · split
    · rename_i h0
      have h1 := takeG_in b (S.o.length + k) 0 [] (Nat.zero_le _) (Nat.le_refl _) h0
      refine ⟨takeG_row b hb _ _ _ rfl, h1.1, h1.2, ?_⟩
      show (takeG b (S.o.length + k) 0 []).1.length ≤ _
      rw [takeG_len b _ h0]
      have := h.n
      omega
    · exact ⟨h.row, h.u, h.ou, by have := h.n; show S.o.length ≤ _; omega⟩
  · exact h.up (by omega)
theorem Inv.num {b : List UInt8} {S : RS} {n : Nat} (hb : rowB b = true) (h : Inv b S n) (k : Nat) : Inv b (numP b S k).2 (n + k) := h.take hb k
theorem Inv.wstep {b : List UInt8} {S : RS} {n : Nat} (hb : rowB b = true) (h : Inv b S n) (c : UInt8) : Inv b (wstep b S c) (n + 1) := by
  unfold Bw.wstep
  split
  · exact h.take hb 1
  · exact (h.take hb 1).fail 4
theorem Inv.want {b : List UInt8} (hb : rowB b = true) : ∀ (l : List UInt8) {S : RS} {n : Nat}, Inv b S n → Inv b (wantP b S l) (n + l.length)
  | [], _, _, h => h
  | c :: l, _, n, h => by
    have := Inv.want hb l (h.wstep hb c)
    rw [List.length_cons, show n + (l.length + 1) = n + 1 + l.length by omega]
    exact this
theorem Inv.next {b : List UInt8} {S : RS} {n : Nat} (h : Inv b S n) (k : Nat) : Inv b (nextP b S k).2 n := by
  unfold nextP
  split
  · split
    · exact ⟨h.row, h.u, h.ou, h.n⟩
    · exact ⟨h.row, by show S.u + k ≤ _; omega, by have := h.ou; show S.o.length ≤ S.u + k; omega, h.n⟩
  · exact h
/-- what was taken: so many bits, or none -/
theorem takeP_len (b : List UInt8) (S : RS) (k : Nat) : (takeP b S k).1.length = k ∨ (takeP b S k).1 = [] := by
  unfold takeP
  split
  · split
    · rename_i h0
      left
      rw [List.length_drop, takeG_len b _ h0]; omega
    · exact .inr rfl
  · exact .inr rfl
theorem takeP_row (b : List UInt8) (hb : rowB b = true) (S : RS) (k : Nat) : rowB (takeP b S k).1 = true := by
  unfold takeP
  split
  · split
    · exact rowB_drop (takeG_row b hb _ _ _ rfl) _
    · rfl
  · rfl
theorem rowB_dropP {l : List UInt8} (h : rowB l = true) (k : Nat) : rowB (l.drop k) = true := rowB_drop h k
theorem nextP_row (b : List UInt8) (hb : rowB b = true) (S : RS) (k : Nat) : rowB (nextP b S k).1 = true := by
  unfold nextP
  split
  · split
    · rfl
    · exact rowB_take (rowB_drop hb _) _
  · rfl
theorem nextP_len (b : List UInt8) (S : RS) (k : Nat) : (nextP b S k).1.length ≤ k := by
  unfold nextP
  split
  · split
    · exact Nat.zero_le _
    · simp; omega
  · exact Nat.zero_le _
theorem numP_lt (b : List UInt8) (hb : rowB b = true) (S : RS) (k : Nat) : (numP b S k).1 < 2 ^ k := by
  have h := val_lt _ (takeP_row b hb S k)
  rcases takeP_len b S k with h1 | h1
  · rw [h1] at h; exact h
  · show val (takeP b S k).1 < _
    rw [h1]; exact Nat.two_pow_pos k

/-- where one is when p was taken of what Put made -/
def stP (p : List UInt8) : RS := ⟨0, (putF p).length, p⟩
theorem takeP_put (T r p c t : List UInt8) (n : Nat) (hT : T = p ++ (c ++ t)) (hrow : rowB T = true) (hn : c.length = n) : takeP (putF T ++ r) (stP p) n = (c, stP (p ++ c)) := by
  subst hn
  have hT' : T = (p ++ c) ++ t := by rw [hT, List.append_assoc]
  obtain ⟨t', ht'⟩ := putF_append (p ++ c) t
  have hrow' : rowB ([] ++ (p ++ c)) = true := by
    rw [hT', rowB_append] at hrow
    simp only [Bool.and_eq_true] at hrow
    exact hrow.1
  have h := take_put (t' ++ r) (p ++ c) [] hrow'
  rw [List.nil_append, putF_nil, List.length_nil, List.length_append] at h
  have hb : putF T ++ r = putF (p ++ c) ++ (t' ++ r) := by rw [hT', ht', List.append_assoc]
  unfold takeP stP
  simp only
  rw [if_pos trivial, hb, h]
  simp
theorem numP_put (T r p c t : List UInt8) (n : Nat) (hT : T = p ++ (c ++ t)) (hrow : rowB T = true) (hn : c.length = n) : numP (putF T ++ r) (stP p) n = (val c, stP (p ++ c)) := by
  unfold numP
  rw [takeP_put T r p c t n hT hrow hn]
theorem wstep_put (T r p t : List UInt8) (c : UInt8) (hT : T = p ++ ([c] ++ t)) (hrow : rowB T = true) : wstep (putF T ++ r) (stP p) c = stP (p ++ [c]) := by
  unfold wstep
  rw [takeP_put T r p [c] t 1 hT hrow rfl, if_pos rfl]

theorem name_short (T r t : List UInt8) (id : Nat) (re : Bool) (hid : id < 2 ^ 11) (hT : T = [48] ++ (bitsHead id 11 11 ++ ([bitB re] ++ ([48] ++ t)))) (hrow : rowB T = true) :
    nameP (putF T ++ r) ⟨0, 0, []⟩ = ⟨stP ([48] ++ bitsHead id 11 11 ++ [bitB re] ++ [48]), id, false, re⟩ := by
  have h0 : (⟨0, 0, []⟩ : RS) = stP [] := rfl
  rw [h0]
  have h1 : nm1 (putF T ++ r) (stP []) = stP [48] := by
    unfold nm1 wantP
    exact wstep_put T r [] _ 48 hT hrow
  have h2 : nmN (putF T ++ r) (stP []) = (id, stP ([48] ++ bitsHead id 11 11)) := by
    unfold nmN
    rw [h1, numP_put T r [48] (bitsHead id 11 11) _ 11 hT hrow (bitsHead_length _ _ _), val_row _ _ hid]
  have h3 : nmF (putF T ++ r) (stP []) = ([bitB re], stP ([48] ++ bitsHead id 11 11 ++ [bitB re])) := by
    unfold nmF
    rw [h2]
    exact takeP_put T r ([48] ++ bitsHead id 11 11) [bitB re] ([48] ++ t) 1 (by rw [hT]; simp) hrow rfl
  have h4 : nmL (putF T ++ r) (stP []) = ([48], stP ([48] ++ bitsHead id 11 11 ++ [bitB re] ++ [48])) := by
    unfold nmL
    rw [h3]
    exact takeP_put T r ([48] ++ bitsHead id 11 11 ++ [bitB re]) [48] t 1 (by rw [hT]; simp) hrow rfl
  unfold nameP
  rw [h4, h3, h2]
  simp only
  rw [if_neg (by decide)]
  cases re <;> rfl
theorem name_long (T r t x y : List UInt8) (id : Nat) (re : Bool) (hx : x.length = 11) (hy : y.length = 18) (hxy : val x * 262144 + val y = id) (hT : T = [48] ++ (x ++ ([49] ++ ([49] ++ (y ++ ([bitB re] ++ t)))))) (hrow : rowB T = true) :
    nameP (putF T ++ r) ⟨0, 0, []⟩ = ⟨stP ([48] ++ x ++ [49] ++ [49] ++ y ++ [bitB re]), id, true, re⟩ := by
  have h0 : (⟨0, 0, []⟩ : RS) = stP [] := rfl
  rw [h0]
  have h1 : nm1 (putF T ++ r) (stP []) = stP [48] := by
    unfold nm1 wantP
    exact wstep_put T r [] _ 48 hT hrow
  have h2 : nmN (putF T ++ r) (stP []) = (val x, stP ([48] ++ x)) := by
    unfold nmN
    rw [h1, numP_put T r [48] x _ 11 hT hrow hx]
  have h3 : nmF (putF T ++ r) (stP []) = ([49], stP ([48] ++ x ++ [49])) := by
    unfold nmF
    rw [h2]
    exact takeP_put T r ([48] ++ x) [49] ([49] ++ (y ++ ([bitB re] ++ t))) 1 (by rw [hT]; simp) hrow rfl
  have h4 : nmL (putF T ++ r) (stP []) = ([49], stP ([48] ++ x ++ [49] ++ [49])) := by
    unfold nmL
    rw [h3]
    exact takeP_put T r ([48] ++ x ++ [49]) [49] (y ++ ([bitB re] ++ t)) 1 (by rw [hT]; simp) hrow rfl
  have h5 : nm5 (putF T ++ r) (stP []) = stP ([48] ++ x ++ [49] ++ [49]) := by
    unfold nm5
    rw [h3, h4, if_pos rfl]
  have h6 : nmM (putF T ++ r) (stP []) = (val y, stP ([48] ++ x ++ [49] ++ [49] ++ y)) := by
    unfold nmM
    rw [h5]
    exact numP_put T r ([48] ++ x ++ [49] ++ [49]) y ([bitB re] ++ t) 18 (by rw [hT]; simp) hrow hy
  have h7 : nmR (putF T ++ r) (stP []) = ([bitB re], stP ([48] ++ x ++ [49] ++ [49] ++ y ++ [bitB re])) := by
    unfold nmR
    rw [h6]
    exact takeP_put T r ([48] ++ x ++ [49] ++ [49] ++ y) [bitB re] t 1 (by rw [hT]; simp) hrow rfl
  unfold nameP
  rw [h4, h7, h2, h6]
  simp only
  rw [if_pos trivial, hxy]
  cases re <;> rfl
end Bw
end Go.Proofs.YtnhnemmddgofnaaDoor
