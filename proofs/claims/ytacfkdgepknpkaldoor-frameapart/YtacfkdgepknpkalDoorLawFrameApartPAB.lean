/- Joined out of our texts: ReadMath, FrameOk, BackRead, TchKit, TakeV, StuffAdd, StuffPut, StuffTake, FrRead1, FrRead2, FrRead3. -/
import Derived.Test.YtacfkdgepknpkalDoorLawFrameApartPAA
import Derived.OneCell
import Derived.Deep.RegionWith
import Derived.BigQuiet
import Derived.Lib.QuietBelow
/- Reading a frame, as plain functions on lists: what is under way, part by part; of no program. -/
namespace Go.Proofs.YtacfkdgepknpkalDoor
namespace Bw
open Bm Cm

/-- what is under way: the fault that was told, how many bits are read, what was taken -/
structure RS where
  fl : Int
  u : Nat
  o : List UInt8
def failP (S : RS) (e : Int) : RS := if S.fl = 0 then ⟨e, S.u, S.o⟩ else S
def takeP (b : List UInt8) (S : RS) (n : Nat) : List UInt8 × RS :=
  if S.fl = 0 then
    (if (takeG b (S.o.length + n) 0 []).2.2 = 0 then ((takeG b (S.o.length + n) 0 []).1.drop S.o.length, ⟨0, (takeG b (S.o.length + n) 0 []).2.1, (takeG b (S.o.length + n) 0 []).1⟩)
     else ([], ⟨(takeG b (S.o.length + n) 0 []).2.2, S.u, S.o⟩))
  else ([], S)
def numP (b : List UInt8) (S : RS) (n : Nat) : Nat × RS := (val (takeP b S n).1, (takeP b S n).2)
def wstep (b : List UInt8) (S : RS) (c : UInt8) : RS := if (takeP b S 1).1 = [c] then (takeP b S 1).2 else failP (takeP b S 1).2 4
def wantP (b : List UInt8) (S : RS) (l : List UInt8) : RS := l.foldl (wstep b) S
theorem wantP_snoc (b : List UInt8) (S : RS) (l : List UInt8) (c : UInt8) : wantP b S (l ++ [c]) = wstep b (wantP b S l) c := by simp [wantP]
/-- so many bits as they stand -/
def nextP (b : List UInt8) (S : RS) (n : Nat) : List UInt8 × RS :=
  if S.fl = 0 then (if b.length < S.u + n then ([], ⟨7, S.u, S.o⟩) else ((b.drop S.u).take n, ⟨0, S.u + n, S.o⟩)) else ([], S)

def nm1 (b : List UInt8) (S : RS) : RS := wantP b S [48]
def nmN (b : List UInt8) (S : RS) : Nat × RS := numP b (nm1 b S) 11
def nmF (b : List UInt8) (S : RS) : List UInt8 × RS := takeP b (nmN b S).2 1
def nmL (b : List UInt8) (S : RS) : List UInt8 × RS := takeP b (nmF b S).2 1
def nm5 (b : List UInt8) (S : RS) : RS := if (nmF b S).1 = [49] then (nmL b S).2 else failP (nmL b S).2 4
def nmM (b : List UInt8) (S : RS) : Nat × RS := numP b (nm5 b S) 18
def nmR (b : List UInt8) (S : RS) : List UInt8 × RS := takeP b (nmM b S).2 1
/-- what was read of a name -/
structure NmR where
  S : RS
  id : Nat
  lo : Bool
  re : Bool
def nameP (b : List UInt8) (S : RS) : NmR :=
  if (nmL b S).1 = [49] then ⟨(nmR b S).2, (nmN b S).1 * 262144 + (nmM b S).1, true, decide ((nmR b S).1 = [49])⟩
  else ⟨(nmL b S).2, (nmN b S).1, false, decide ((nmF b S).1 = [49])⟩
def formP (b : List UInt8) (S : RS) (lo re : Bool) : RS × Bool :=
  if (takeP b S 1).1 = [49] then (if re then failP (takeP b S 1).2 4 else wantP b (takeP b S 1).2 [48, 49, 48], true)
  else (if lo then wantP b (takeP b S 1).2 [48] else (takeP b S 1).2, false)
def topD (fa : Bool) : Nat := if fa then 64 else 8
def dtN (b : List UInt8) (S : RS) : Nat := sizesL.getD (numP b S 4).1 0
def dt2 (b : List UInt8) (S : RS) (fa : Bool) : RS := if topD fa < dtN b S then failP (numP b S 4).2 4 else (numP b S 4).2
/-- what was read of the data -/
structure DtR where
  S : RS
  sz : Nat
  dt : List UInt8
def dataP (b : List UInt8) (S : RS) (fa re : Bool) : DtR :=
  if re then ⟨dt2 b S fa, dtN b S, []⟩ else ⟨(takeP b (dt2 b S fa) (8 * dtN b S)).2, 0, bytesL (takeP b (dt2 b S fa) (8 * dtN b S)).1⟩
def sumP (b : List UInt8) (S : RS) : RS := if (takeP b S 15).1 = sumL 0 S.o then (takeP b S 15).2 else failP (takeP b S 15).2 6
/-- without each fifth, the first being one -/
def unfixL : List UInt8 → Nat → List UInt8
  | [], _ => []
  | c :: l, i => if i % 5 = 0 then unfixL l (i + 1) else c :: unfixL l (i + 1)
def fixedP (b : List UInt8) (S : RS) (n : Nat) : RS :=
  if S.fl = 0 then
    (if (nextP b S (fastL S.o (b.take S.u) n).length).1 = fixL (unfixL (nextP b S (fastL S.o (b.take S.u) n).length).1 0) (lastB (b.take S.u)) then
      (if (nextP b S (fastL S.o (b.take S.u) n).length).1 = fastL S.o (b.take S.u) n then (nextP b S (fastL S.o (b.take S.u) n).length).2 else failP (nextP b S (fastL S.o (b.take S.u) n).length).2 6)
     else failP (nextP b S (fastL S.o (b.take S.u) n).length).2 5)
  else S
def heardL : List UInt8 := [49, 48, 49, 49, 49, 49, 49, 49, 49, 49]
def endP (b : List UInt8) (S : RS) : RS := if (nextP b S 10).1 = onesL ∨ (nextP b S 10).1 = heardL then (nextP b S 10).2 else failP (nextP b S 10).2 4
def rdA (b : List UInt8) : NmR := nameP b ⟨0, 0, []⟩
def rdB (b : List UInt8) : RS × Bool := formP b (rdA b).S (rdA b).lo (rdA b).re
def rdD (b : List UInt8) : DtR := dataP b (rdB b).1 (rdB b).2 (rdA b).re
def rdS (b : List UInt8) : RS := if (rdB b).2 then fixedP b (rdD b).S (rdD b).dt.length else sumP b (rdD b).S
def rdE (b : List UInt8) : RS := endP b (rdS b)
def rdF (b : List UInt8) : Fr := ⟨(rdA b).id, (rdA b).lo, (rdB b).2, (rdA b).re, (rdD b).sz, (rdD b).dt⟩

theorem takeG_row (b : List UInt8) (hb : rowB b = true) : ∀ m u o, rowB o = true → rowB (takeG b m u o).1 = true
  | 0, _, _, ho => ho
  | m + 1, u, o, ho => by
    rw [takeG]
    split
    · rfl
    · rename_i h
      have hbit : bit (b.getD u 0) = true := by
        have hu : u < b.length := by omega
        rw [List.getD, List.getElem?_eq_getElem hu, Option.getD_some]
        exact rowB_all.1 hb _ (List.getElem_mem hu)
      have ho' : rowB (o ++ [b.getD u 0]) = true := by rw [rowB_snoc, ho, hbit]; rfl
      split
      · split
        · rfl
        · split
          · rfl
          · exact takeG_row b hb m _ _ ho'
      · exact takeG_row b hb m _ _ ho'
theorem takeG_len (b : List UInt8) (m : Nat) : (takeG b m 0 []).2.2 = 0 → (takeG b m 0 []).1.length = m := by
  intro h
  have := (takeG_ok b m 0 [] (takeG b m 0 []).1 (takeG b m 0 []).2.1 (by rw [← h])).1
  simpa using this

theorem takeG_in (b : List UInt8) : ∀ m u o, u ≤ b.length → o.length ≤ u → (takeG b m u o).2.2 = 0 → (takeG b m u o).2.1 ≤ b.length ∧ (takeG b m u o).1.length ≤ (takeG b m u o).2.1
  | 0, _, _, h1, h2, _ => ⟨h1, h2⟩
  | m + 1, u, o, h1, h2, h => by
    rw [takeG] at h ⊢
    split at h
    · cases h
    · rename_i hu
      rw [if_neg hu]
      split at h
      · rename_i h5
        rw [if_pos h5]
        split at h
        · cases h
        · rename_i hu2
          rw [if_neg hu2]
          split at h
          · cases h
          · rename_i h6
            rw [if_neg h6]
            exact takeG_in b m _ _ (by omega) (by simp; omega) h
      · rename_i h5
        rw [if_neg h5]
        exact takeG_in b m _ _ (by omega) (by simp; omega) h
/-- what is under way is right: a row, and no more than is there -/
structure Inv (b : List UInt8) (S : RS) (n : Nat) : Prop where
  row : rowB S.o = true
  u : S.u ≤ b.length
  ou : S.o.length ≤ S.u
  n : S.o.length ≤ n
theorem Inv.start (b : List UInt8) : Inv b ⟨0, 0, []⟩ 0 := ⟨rfl, Nat.zero_le _, Nat.le_refl _, Nat.le_refl _⟩
theorem Inv.up {b : List UInt8} {S : RS} {n m : Nat} (h : Inv b S n) (hm : n ≤ m) : Inv b S m := ⟨h.row, h.u, h.ou, Nat.le_trans h.n hm⟩
theorem Inv.fail {b : List UInt8} {S : RS} {n : Nat} (h : Inv b S n) (e : Int) : Inv b (failP S e) n := by
  unfold failP
  split
  · exact ⟨h.row, h.u, h.ou, h.n⟩
  · exact h
theorem Inv.take {b : List UInt8} {S : RS} {n : Nat} (hb : rowB b = true) (h : Inv b S n) (k : Nat) : Inv b (takeP b S k).2 (n + k) := by
  unfold takeP
  split
  · split
    · rename_i h0
      have h1 := takeG_in b (S.o.length + k) 0 [] (Nat.zero_le _) (Nat.le_refl _) h0
      refine ⟨takeG_row b hb _ _ _ rfl, h1.1, h1.2, ?_⟩
      show (takeG b (S.o.length + k) 0 []).1.length ≤ _
      rw [takeG_len b _ h0]
      have := h.n
      omega
    · exact ⟨h.row, h.u, h.ou, by have := h.n; show S.o.length ≤ _; omega⟩
  · exact h.up (by omega)
theorem Inv.num {b : List UInt8} {S : RS} {n : Nat} (hb : rowB b = true) (h : Inv b S n) (k : Nat) : Inv b (numP b S k).2 (n + k) := h.take hb k
theorem Inv.wstep {b : List UInt8} {S : RS} {n : Nat} (hb : rowB b = true) (h : Inv b S n) (c : UInt8) : Inv b (wstep b S c) (n + 1) := by
  unfold Bw.wstep
  split
  · exact h.take hb 1
  · exact (h.take hb 1).fail 4
theorem Inv.want {b : List UInt8} (hb : rowB b = true) : ∀ (l : List UInt8) {S : RS} {n : Nat}, Inv b S n → Inv b (wantP b S l) (n + l.length)
  | [], _, _, h => h
  | c :: l, _, n, h => by
    have := Inv.want hb l (h.wstep hb c)
    rw [List.length_cons, show n + (l.length + 1) = n + 1 + l.length by omega]
    exact this
theorem Inv.next {b : List UInt8} {S : RS} {n : Nat} (h : Inv b S n) (k : Nat) : Inv b (nextP b S k).2 n := by
  unfold nextP
  split
  · split
    · exact ⟨h.row, h.u, h.ou, h.n⟩
    · exact ⟨h.row, by show S.u + k ≤ _; omega, by have := h.ou; show S.o.length ≤ S.u + k; omega, h.n⟩
  · exact h
/-- what was taken: so many bits, or none -/
theorem takeP_len (b : List UInt8) (S : RS) (k : Nat) : (takeP b S k).1.length = k ∨ (takeP b S k).1 = [] := by
  unfold takeP
  split
  · split
    · rename_i h0
      left
      rw [List.length_drop, takeG_len b _ h0]; omega
    · exact .inr rfl
  · exact .inr rfl
theorem takeP_row (b : List UInt8) (hb : rowB b = true) (S : RS) (k : Nat) : rowB (takeP b S k).1 = true := by
  unfold takeP
  split
  · split
    · exact rowB_drop (takeG_row b hb _ _ _ rfl) _
    · rfl
  · rfl
theorem rowB_dropP {l : List UInt8} (h : rowB l = true) (k : Nat) : rowB (l.drop k) = true := rowB_drop h k
theorem nextP_row (b : List UInt8) (hb : rowB b = true) (S : RS) (k : Nat) : rowB (nextP b S k).1 = true := by
  unfold nextP
  split
  · split
    · rfl
    · exact rowB_take (rowB_drop hb _) _
  · rfl
theorem nextP_len (b : List UInt8) (S : RS) (k : Nat) : (nextP b S k).1.length ≤ k := by
  unfold nextP
  split
  · split
    · exact Nat.zero_le _
    · simp; omega
  · exact Nat.zero_le _
theorem numP_lt (b : List UInt8) (hb : rowB b = true) (S : RS) (k : Nat) : (numP b S k).1 < 2 ^ k := by
  have h := val_lt _ (takeP_row b hb S k)
  rcases takeP_len b S k with h1 | h1
  · rw [h1] at h; exact h
  · show val (takeP b S k).1 < _
    rw [h1]; exact Nat.two_pow_pos k

/-- where one is when p was taken of what Put made -/
def stP (p : List UInt8) : RS := ⟨0, (putF p).length, p⟩
theorem takeP_put (T r p c t : List UInt8) (n : Nat) (hT : T = p ++ (c ++ t)) (hrow : rowB T = true) (hn : c.length = n) : takeP (putF T ++ r) (stP p) n = (c, stP (p ++ c)) := by
  subst hn
  have hT' : T = (p ++ c) ++ t := by rw [hT, List.append_assoc]
  obtain ⟨t', ht'⟩ := putF_append (p ++ c) t
  have hrow' : rowB ([] ++ (p ++ c)) = true := by
    rw [hT', rowB_append] at hrow
    simp only [Bool.and_eq_true] at hrow
    exact hrow.1
  have h := take_put (t' ++ r) (p ++ c) [] hrow'
  rw [List.nil_append, putF_nil, List.length_nil, List.length_append] at h
  have hb : putF T ++ r = putF (p ++ c) ++ (t' ++ r) := by rw [hT', ht', List.append_assoc]
  unfold takeP stP
  simp only
  rw [if_pos trivial, hb, h]
  simp
theorem numP_put (T r p c t : List UInt8) (n : Nat) (hT : T = p ++ (c ++ t)) (hrow : rowB T = true) (hn : c.length = n) : numP (putF T ++ r) (stP p) n = (val c, stP (p ++ c)) := by
  unfold numP
  rw [takeP_put T r p c t n hT hrow hn]
theorem wstep_put (T r p t : List UInt8) (c : UInt8) (hT : T = p ++ ([c] ++ t)) (hrow : rowB T = true) : wstep (putF T ++ r) (stP p) c = stP (p ++ [c]) := by
  unfold wstep
  rw [takeP_put T r p [c] t 1 hT hrow rfl, if_pos rfl]

theorem name_short (T r t : List UInt8) (id : Nat) (re : Bool) (hid : id < 2 ^ 11) (hT : T = [48] ++ (bitsHead id 11 11 ++ ([bitB re] ++ ([48] ++ t)))) (hrow : rowB T = true) :
    nameP (putF T ++ r) ⟨0, 0, []⟩ = ⟨stP ([48] ++ bitsHead id 11 11 ++ [bitB re] ++ [48]), id, false, re⟩ := by
  have h0 : (⟨0, 0, []⟩ : RS) = stP [] := rfl
  rw [h0]
  have h1 : nm1 (putF T ++ r) (stP []) = stP [48] := by
    unfold nm1 wantP
    exact wstep_put T r [] _ 48 hT hrow
  have h2 : nmN (putF T ++ r) (stP []) = (id, stP ([48] ++ bitsHead id 11 11)) := by
    unfold nmN
    rw [h1, numP_put T r [48] (bitsHead id 11 11) _ 11 hT hrow (bitsHead_length _ _ _), val_row _ _ hid]
  have h3 : nmF (putF T ++ r) (stP []) = ([bitB re], stP ([48] ++ bitsHead id 11 11 ++ [bitB re])) := by
    unfold nmF
    rw [h2]
    exact takeP_put T r ([48] ++ bitsHead id 11 11) [bitB re] ([48] ++ t) 1 (by rw [hT]; simp) hrow rfl
  have h4 : nmL (putF T ++ r) (stP []) = ([48], stP ([48] ++ bitsHead id 11 11 ++ [bitB re] ++ [48])) := by
    unfold nmL
    rw [h3]
    exact takeP_put T r ([48] ++ bitsHead id 11 11 ++ [bitB re]) [48] t 1 (by rw [hT]; simp) hrow rfl
  unfold nameP
  rw [h4, h3, h2]
  simp only
  rw [if_neg (by decide)]
  cases re <;> rfl
theorem name_long (T r t x y : List UInt8) (id : Nat) (re : Bool) (hx : x.length = 11) (hy : y.length = 18) (hxy : val x * 262144 + val y = id) (hT : T = [48] ++ (x ++ ([49] ++ ([49] ++ (y ++ ([bitB re] ++ t)))))) (hrow : rowB T = true) :
    nameP (putF T ++ r) ⟨0, 0, []⟩ = ⟨stP ([48] ++ x ++ [49] ++ [49] ++ y ++ [bitB re]), id, true, re⟩ := by
  have h0 : (⟨0, 0, []⟩ : RS) = stP [] := rfl
  rw [h0]
  have h1 : nm1 (putF T ++ r) (stP []) = stP [48] := by
    unfold nm1 wantP
    exact wstep_put T r [] _ 48 hT hrow
  have h2 : nmN (putF T ++ r) (stP []) = (val x, stP ([48] ++ x)) := by
    unfold nmN
    rw [h1, numP_put T r [48] x _ 11 hT hrow hx]
  have h3 : nmF (putF T ++ r) (stP []) = ([49], stP ([48] ++ x ++ [49])) := by
    unfold nmF
    rw [h2]
    exact takeP_put T r ([48] ++ x) [49] ([49] ++ (y ++ ([bitB re] ++ t))) 1 (by rw [hT]; simp) hrow rfl
  have h4 : nmL (putF T ++ r) (stP []) = ([49], stP ([48] ++ x ++ [49] ++ [49])) := by
    unfold nmL
    rw [h3]
    exact takeP_put T r ([48] ++ x ++ [49]) [49] (y ++ ([bitB re] ++ t)) 1 (by rw [hT]; simp) hrow rfl
  have h5 : nm5 (putF T ++ r) (stP []) = stP ([48] ++ x ++ [49] ++ [49]) := by
    unfold nm5
    rw [h3, h4, if_pos rfl]
  have h6 : nmM (putF T ++ r) (stP []) = (val y, stP ([48] ++ x ++ [49] ++ [49] ++ y)) := by
    unfold nmM
    rw [h5]
    exact numP_put T r ([48] ++ x ++ [49] ++ [49]) y ([bitB re] ++ t) 18 (by rw [hT]; simp) hrow hy
  have h7 : nmR (putF T ++ r) (stP []) = ([bitB re], stP ([48] ++ x ++ [49] ++ [49] ++ y ++ [bitB re])) := by
    unfold nmR
    rw [h6]
    exact takeP_put T r ([48] ++ x ++ [49] ++ [49] ++ y) [bitB re] t 1 (by rw [hT]; simp) hrow rfl
  unfold nameP
  rw [h4, h7, h2, h6]
  simp only
  rw [if_pos trivial, hxy]
  cases re <;> rfl
end Bw
end Go.Proofs.YtacfkdgepknpkalDoor

/- What it says of a frame that it is right; of no program. -/
namespace Go.Proofs.YtacfkdgepknpkalDoor
namespace Bw
open Bm Cm
theorem frE_ok {f : Fr} (h : frE f = 0) : 0 ≤ f.id ∧ f.id ≤ topI f.lo ∧ (f.re = true → f.fa = false ∧ f.dt.length = 0) ∧ 0 ≤ f.sz ∧ f.sz ≤ 8 ∧ (f.re = false → f.sz = 0) ∧ f.dt.length ≤ 64 ∧ (f.fa = false → f.dt.length ≤ 8) ∧ f.dt.length ∈ sizesL := by
  obtain ⟨id, lo, fa, re, sz, dt⟩ := f
  unfold frE frEn at h
  simp only at h ⊢
  split at h
  · cases h
  · split at h
    · cases h
    · split at h
      · cases h
      · split at h
        · cases h
        · split at h
          · rename_i h1 h2 h3 h4 h5
            refine ⟨by omega, by omega, fun hr => ?_, by omega, by omega, fun hr => ?_, by omega, fun hf => ?_, h5⟩
            · subst hr
              cases fa
              · exact ⟨rfl, by simpa using h2⟩
              · exact absurd ⟨rfl, .inl rfl⟩ h2
            · subst hr
              have : ¬ 0 < sz := fun h => h3 (.inr (.inr ⟨h, rfl⟩))
              omega
            · subst hf
              have : ¬ 8 < dt.length := fun h => h4 (.inr ⟨h, rfl⟩)
              omega
          · cases h
end Bw
end Go.Proofs.YtacfkdgepknpkalDoor

/- What is sent is read: plain facts on lists; of no program. -/
namespace Go.Proofs.YtacfkdgepknpkalDoor
namespace Bw
open Bm Cm

theorem unfix_fix (l : List UInt8) (a : UInt8) : ∀ i, i ≤ l.length → unfixL (fixR l a i) 0 = l.take i ∧ (fixR l a i).length = i + (i + 3) / 4
  | 0, _ => by simp [fixR, unfixL]
  | i + 1, h => by
    obtain ⟨h1, h2⟩ := unfix_fix l a i (by omega)
    have hs : ∀ (x : List UInt8) (j : Nat) (c : UInt8), unfixL (x ++ [c]) j = unfixL x j ++ (if (j + x.length) % 5 = 0 then [] else [c]) := by
      intro x
      induction x with
      | nil => intro j c; simp only [List.nil_append, unfixL, List.length_nil, Nat.add_zero]
      | cons d x ih =>
        intro j c
        rw [List.cons_append, unfixL, unfixL, ih, List.length_cons, show j + 1 + x.length = j + (x.length + 1) by omega]
        split <;> simp
    have ht : l.take (i + 1) = l.take i ++ [l.getD i 0] := take_snocL l i (by omega)
    rw [fixR]
    by_cases h4 : i % 4 = 0
    · rw [if_pos h4]
      refine ⟨?_, by simp [h2]; omega⟩
      rw [hs, hs, h1, ht, h2]
      have e1 : (0 + (i + (i + 3) / 4)) % 5 = 0 := by omega
      have e2 : ¬ (0 + (fixR l a i ++ [otb (fixP l a i)]).length) % 5 = 0 := by simp [h2]; omega
      rw [if_pos e1, if_neg e2]; simp
    · rw [if_neg h4]
      refine ⟨?_, by simp [h2]; omega⟩
      rw [hs, h1, ht, h2]
      have e2 : ¬ (0 + (i + (i + 3) / 4)) % 5 = 0 := by omega
      rw [if_neg e2]
theorem unfix_fixL (l : List UInt8) (a : UInt8) : unfixL (fixL l a) 0 = l := by
  unfold fixL
  rw [(unfix_fix l a l.length (Nat.le_refl _)).1, List.take_length]
theorem bytesL_ofL (l : List UInt8) : bytesL (ofL l) = l := by
  unfold bytesL
  rw [ofL_length, Nat.mul_div_cancel_left _ (by omega : 0 < 8)]
  apply List.ext_getElem
  · simp
  intro i h1 h2
  have hi : i < l.length := h2
  simp only [List.getElem_map, List.getElem_range]
  unfold byteAt
  rw [ofL_drop, List.drop_eq_getElem_cons hi, ofL_cons, List.take_append_of_le_length (by rw [bitsHead_length]; omega), List.take_of_length_le (by rw [bitsHead_length]; omega), val_row _ _ (by have := (l[i]).toNat_lt; omega)]
  exact UInt8.ofNat_toNat
theorem sizes_at {n : Nat} (h : n ∈ sizesL) : sizesL.getD (sizesL.idxOf n) 0 = n ∧ sizesL.idxOf n < 16 ∧ n ≤ 64 := by
  have : ∀ m ∈ sizesL, sizesL.getD (sizesL.idxOf m) 0 = m ∧ sizesL.idxOf m < 16 ∧ m ≤ 64 := by decide +kernel
  exact this n h
theorem sizes_small {n : Nat} (h : n ≤ 8) : sizesL.getD n 0 = n := by
  have : ∀ m : Fin 9, sizesL.getD m 0 = m := by decide +kernel
  exact this ⟨n, by omega⟩
/-- what is read ahead of the form -/
theorem name_back (f : Fr) (T r t : List UInt8) (hE : frE f = 0) (hT : T = ([48] ++ nameL f) ++ t) (hrow : rowB T = true) :
    nameP (putF T ++ r) ⟨0, 0, []⟩ = ⟨stP ([48] ++ nameL f), f.id.toNat, f.lo, f.re⟩ := by
  obtain ⟨e1, e2, -⟩ := frE_ok hE
  unfold nameL at hT ⊢
  cases hlo : f.lo
  · rw [hlo] at hT e2
    have hid : f.id.toNat < 2 ^ 11 := by simp [topI] at e2; omega
    simp only [Bool.false_eq_true, if_false] at hT ⊢
    rw [name_short T r t f.id.toNat f.re hid (by rw [hT]; simp) hrow]
    simp
  · rw [hlo] at hT e2
    have hid : f.id.toNat < 2 ^ 29 := by simp [topI] at e2; omega
    simp only [if_true] at hT ⊢
    have hv := val_row f.id.toNat 29 hid
    have hd : ((bitsHead f.id.toNat 29 29).drop 11).length = 18 := by simp [bitsHead_length]
    rw [← List.take_append_drop 11 (bitsHead f.id.toNat 29 29), val_append, hd] at hv
    rw [name_long T r t ((bitsHead f.id.toNat 29 29).take 11) ((bitsHead f.id.toNat 29 29).drop 11) f.id.toNat f.re (by simp [bitsHead_length]) hd hv (by rw [hT]; simp) hrow]
    simp
theorem form_back (f : Fr) (T r p t : List UInt8) (hE : frE f = 0) (hT : T = p ++ (midL f ++ t)) (hrow : rowB T = true) :
    formP (putF T ++ r) (stP p) f.lo f.re = (stP (p ++ midL f), f.fa) := by
  obtain ⟨-, -, e3, -⟩ := frE_ok hE
  unfold formP
  unfold midL at hT ⊢
  cases hfa : f.fa
  · rw [hfa] at hT
    cases hlo : f.lo
    · rw [hlo] at hT
      simp only [Bool.false_eq_true, if_false] at hT ⊢
      rw [takeP_put T r p [48] t 1 hT hrow rfl, if_neg (by simp)]
    · rw [hlo] at hT
      simp only [Bool.false_eq_true, if_false, if_true] at hT ⊢
      rw [takeP_put T r p [48] ([48] ++ t) 1 (by rw [hT]; simp) hrow rfl, if_neg (by simp)]
      have h2 : wantP (putF T ++ r) (stP (p ++ [48])) [48] = stP (p ++ [48] ++ [48]) := wstep_put T r (p ++ [48]) t 48 (by rw [hT]; simp) hrow
      simp only [h2]
      simp
  · rw [hfa] at hT e3
    have hre : f.re = false := by
      cases h : f.re
      · rfl
      · exact absurd (e3 h).1 (by decide)
    simp only [if_true] at hT ⊢
    rw [takeP_put T r p [49] ([48, 49, 48] ++ t) 1 (by rw [hT]; simp) hrow rfl, if_pos rfl, hre]
    have h2 : wantP (putF T ++ r) (stP (p ++ [49])) [48, 49, 48] = stP (p ++ [49] ++ [48] ++ [49] ++ [48]) := by
      show wstep _ (wstep _ (wstep _ _ 48) 49) 48 = _
      rw [wstep_put T r (p ++ [49]) ([49, 48] ++ t) 48 (by rw [hT]; simp) hrow, wstep_put T r (p ++ [49] ++ [48]) ([48] ++ t) 49 (by rw [hT]; simp) hrow, wstep_put T r (p ++ [49] ++ [48] ++ [49]) t 48 (by rw [hT]; simp) hrow]
    simp only [h2]
    simp
theorem data_back (f : Fr) (T r p t : List UInt8) (hE : frE f = 0) (hT : T = p ++ (bitsHead (codeN f) 4 4 ++ (ofL f.dt ++ t))) (hrow : rowB T = true) :
    dataP (putF T ++ r) (stP p) f.fa f.re = ⟨stP (p ++ bitsHead (codeN f) 4 4 ++ ofL f.dt), f.sz.toNat, f.dt⟩ := by
  obtain ⟨-, -, e3, e4, e5, e6, e7, e8, e9⟩ := frE_ok hE
  have hsz := sizes_at e9
  have hcode : codeN f < 2 ^ 4 := by
    unfold codeN
    split
    · omega
    · exact hsz.2.1
  have hn : numP (putF T ++ r) (stP p) 4 = (codeN f, stP (p ++ bitsHead (codeN f) 4 4)) := by
    rw [numP_put T r p (bitsHead (codeN f) 4 4) _ 4 hT hrow (bitsHead_length _ _ _), val_row _ _ hcode]
  have hd : dtN (putF T ++ r) (stP p) = sizesL.getD (codeN f) 0 := by unfold dtN; rw [hn]
  cases hre : f.re
  · have hc : codeN f = sizesL.idxOf f.dt.length := by unfold codeN; rw [hre]; rfl
    have hdn : dtN (putF T ++ r) (stP p) = f.dt.length := by rw [hd, hc]; exact hsz.1
    have h2 : dt2 (putF T ++ r) (stP p) f.fa = stP (p ++ bitsHead (codeN f) 4 4) := by
      unfold dt2
      rw [hdn, hn, if_neg]
      unfold topD
      cases hfa : f.fa
      · have := e8 hfa; simp; omega
      · simp; omega
    unfold dataP
    rw [h2, hdn, takeP_put T r (p ++ bitsHead (codeN f) 4 4) (ofL f.dt) t (8 * f.dt.length) (by rw [hT]; simp) hrow (ofL_length _), bytesL_ofL, e6 hre]
    rfl
  · have hc : codeN f = f.sz.toNat := by unfold codeN; rw [hre]; rfl
    obtain ⟨hfa, hdt⟩ := e3 hre
    have hdn : dtN (putF T ++ r) (stP p) = f.sz.toNat := by rw [hd, hc]; exact sizes_small (by omega)
    have h2 : dt2 (putF T ++ r) (stP p) f.fa = stP (p ++ bitsHead (codeN f) 4 4) := by
      unfold dt2
      rw [hdn, hn, if_neg]
      unfold topD
      rw [hfa]; simp; omega
    have hnil : f.dt = [] := List.eq_nil_of_length_eq_zero hdt
    unfold dataP
    rw [h2, hdn, hnil]
    simp [ofL]
/-- a frame's bits ahead of the last ten -/
def preL (f : Fr) : List UInt8 := if f.fa then putF (headL f) ++ fastL (headL f) (putF (headL f)) f.dt.length else putF (headL f ++ sumL 0 (headL f))
theorem bitsL_pre (f : Fr) : bitsL f = preL f ++ onesL := by unfold bitsL preL; split <;> rfl
theorem end_back (x e rest o : List UInt8) (he : e = onesL ∨ e = heardL) : endP (x ++ (e ++ rest)) ⟨0, x.length, o⟩ = ⟨0, x.length + 10, o⟩ := by
  have hl : e.length = 10 := by rcases he with rfl | rfl <;> rfl
  have h : nextP (x ++ (e ++ rest)) ⟨0, x.length, o⟩ 10 = (e, ⟨0, x.length + 10, o⟩) := by
    unfold nextP
    simp only
    rw [if_pos trivial, if_neg (by simp; omega), List.drop_left, ← hl, List.take_left]
  unfold endP
  rw [h, if_pos he]
theorem read_back (f : Fr) (e rest : List UInt8) (hE : frE f = 0) (he : e = onesL ∨ e = heardL) :
    (rdE (preL f ++ (e ++ rest))).fl = 0 ∧ (rdE (preL f ++ (e ++ rest))).u = (preL f).length + 10 ∧ rdF (preL f ++ (e ++ rest)) = f := by
  obtain ⟨e1, -, -, e4, -⟩ := frE_ok hE
  have hh : headL f = ([48] ++ nameL f) ++ (midL f ++ (bitsHead (codeN f) 4 4 ++ ofL f.dt)) := by unfold headL; simp
  have hp : [48] ++ nameL f ++ midL f ++ bitsHead (codeN f) 4 4 ++ ofL f.dt = headL f := rfl
  cases hfa : f.fa
  · have hb : preL f ++ (e ++ rest) = putF (headL f ++ sumL 0 (headL f)) ++ (e ++ rest) := by unfold preL; rw [hfa]; rfl
    have hrow : rowB (headL f ++ sumL 0 (headL f)) = true := by rw [rowB_append, headL_row, sumL_row]; rfl
    have hpl : preL f = putF (headL f ++ sumL 0 (headL f)) := by unfold preL; rw [hfa]; rfl
    rw [hb]
    have hA : rdA (putF (headL f ++ sumL 0 (headL f)) ++ (e ++ rest)) = ⟨stP ([48] ++ nameL f), f.id.toNat, f.lo, f.re⟩ :=
      name_back f _ _ ((midL f ++ (bitsHead (codeN f) 4 4 ++ ofL f.dt)) ++ sumL 0 (headL f)) hE (by rw [hh]; simp only [List.append_assoc]) hrow
    have hB : rdB (putF (headL f ++ sumL 0 (headL f)) ++ (e ++ rest)) = (stP ([48] ++ nameL f ++ midL f), f.fa) := by
      unfold rdB
      rw [hA]
      exact form_back f _ _ _ ((bitsHead (codeN f) 4 4 ++ ofL f.dt) ++ sumL 0 (headL f)) hE (by rw [hh]; simp only [List.append_assoc]) hrow
    have hD : rdD (putF (headL f ++ sumL 0 (headL f)) ++ (e ++ rest)) = ⟨stP (headL f), f.sz.toNat, f.dt⟩ := by
      unfold rdD
      rw [hA, hB, ← hp]
      exact data_back f _ _ _ (sumL 0 (headL f)) hE (by rw [hh]; simp only [List.append_assoc]) hrow
    have hS : rdS (putF (headL f ++ sumL 0 (headL f)) ++ (e ++ rest)) = stP (headL f ++ sumL 0 (headL f)) := by
      unfold rdS
      rw [hB, hD, hfa]
      simp only [Bool.false_eq_true, if_false]
      unfold sumP
      rw [takeP_put _ _ (headL f) (sumL 0 (headL f)) [] 15 (by simp) hrow (sumL_len _ _)]
      rw [if_pos (show sumL 0 (headL f) = sumL 0 (stP (headL f)).o from rfl)]
    have hEe : rdE (putF (headL f ++ sumL 0 (headL f)) ++ (e ++ rest)) = ⟨0, (preL f).length + 10, headL f ++ sumL 0 (headL f)⟩ := by
      unfold rdE
      rw [hS, hpl]
      exact end_back _ e rest _ he
    refine ⟨by rw [hEe], by rw [hEe], ?_⟩
    unfold rdF
    rw [hA, hB, hD]
    simp only [Int.toNat_of_nonneg e1, Int.toNat_of_nonneg e4]
  · have hpl : preL f = putF (headL f) ++ fastL (headL f) (putF (headL f)) f.dt.length := by unfold preL; rw [hfa]; rfl
    have hb : preL f ++ (e ++ rest) = putF (headL f) ++ (fastL (headL f) (putF (headL f)) f.dt.length ++ (e ++ rest)) := by rw [hpl, List.append_assoc]
    have hrow : rowB (headL f) = true := headL_row f
    have hb0 := hb
    rw [hb]
    generalize hrr : fastL (headL f) (putF (headL f)) f.dt.length ++ (e ++ rest) = rr at *
    have hA : rdA (putF (headL f) ++ rr) = ⟨stP ([48] ++ nameL f), f.id.toNat, f.lo, f.re⟩ :=
      name_back f _ _ (midL f ++ (bitsHead (codeN f) 4 4 ++ ofL f.dt)) hE hh hrow
    have hB : rdB (putF (headL f) ++ rr) = (stP ([48] ++ nameL f ++ midL f), f.fa) := by
      unfold rdB
      rw [hA]
      exact form_back f _ _ _ (bitsHead (codeN f) 4 4 ++ ofL f.dt) hE (by rw [hh]) hrow
    have hD : rdD (putF (headL f) ++ rr) = ⟨stP (headL f), f.sz.toNat, f.dt⟩ := by
      unfold rdD
      rw [hA, hB, ← hp]
      exact data_back f _ _ _ [] hE (by simp only [List.append_assoc, List.append_nil]) hrow
    have htk : (putF (headL f) ++ rr).take (putF (headL f)).length = putF (headL f) := List.take_left
    have hnx : nextP (putF (headL f) ++ rr) (stP (headL f)) (fastL (headL f) (putF (headL f)) f.dt.length).length = (fastL (headL f) (putF (headL f)) f.dt.length, ⟨0, (preL f).length, headL f⟩) := by
      unfold nextP stP
      simp only
      rw [if_pos trivial, if_neg (by rw [← hrr]; simp), List.drop_left, ← hrr, List.take_left, hpl, List.length_append]
    have hS : rdS (putF (headL f) ++ rr) = ⟨0, (preL f).length, headL f⟩ := by
      unfold rdS
      rw [hB, hD, hfa]
      simp only [if_true]
      unfold fixedP
      rw [if_pos (show (stP (headL f)).fl = 0 from rfl), show (stP (headL f)).u = (putF (headL f)).length from rfl, show (stP (headL f)).o = headL f from rfl, htk, hnx]
      simp only
      rw [if_pos, if_pos trivial]
      show _ = fixL (unfixL (fixL _ _) 0) _
      rw [unfix_fixL]
      rfl
    have hEe : rdE (putF (headL f) ++ rr) = ⟨0, (preL f).length + 10, headL f⟩ := by
      unfold rdE
      rw [hS, ← hb0]
      exact end_back _ e rest _ he
    refine ⟨by rw [hEe], by rw [hEe], ?_⟩
    unfold rdF
    rw [hA, hB, hD]
    simp only [Int.toNat_of_nonneg e1, Int.toNat_of_nonneg e4]
end Bw
end Go.Proofs.YtacfkdgepknpkalDoor

/- Variables of one cell, and worlds of which only some blocks have turned; none walks a function. -/
namespace Go.Proofs.YtacfkdgepknpkalDoor
open Go.ChangeShapes Go.WideShapes Go.ChangeAt Go.RowKit
namespace Bw
/-- a variable of one cell -/
def BoxAt (w : World) (g : Nat) (t : TypeId) (v : Value) : Prop := w.heap[g]? = some (.cells #[v] t (0, 0))
theorem BoxAt.lt {w : World} {g : Nat} {t : TypeId} {v : Value} (h : BoxAt w g t v) : g < w.heap.size := by
  rcases Nat.lt_or_ge g w.heap.size with h' | h'
  · exact h'
  · unfold BoxAt at h; rw [Array.getElem?_eq_none h'] at h; cases h
theorem BoxAt.cell {w : World} {g : Nat} {t : TypeId} {v : Value} (h : BoxAt w g t v) : w.cell? ⟨g, 0, none⟩ = some v := by
  rw [cell_of_row w g 0 _ _ _ h]; rfl
theorem BoxAt.frozen {w : World} {g : Nat} {t : TypeId} {v : Value} (h : BoxAt w g t v) : w.frozen? ⟨g, 0, none⟩ = false := frozen_of_row w g 0 _ _ h
theorem BoxAt.kept {w w' : World} {g : Nat} {t : TypeId} {v : Value} (h : BoxAt w g t v) (hb : Below w.heap.size w w') : BoxAt w' g t v := by
  unfold BoxAt; rw [hb.block g h.lt]; exact h
theorem BoxAt.set {w : World} {g : Nat} {t : TypeId} {v : Value} (h : BoxAt w g t v) (u : Value) : BoxAt (w.setCell ⟨g, 0, none⟩ u) g t u := heap_setCell_same w g 0 _ t u h
theorem BoxAt.other {w : World} {g k : Nat} {t : TypeId} {v : Value} (h : BoxAt w g t v) (u : Value) (hk : g ≠ k) : BoxAt (w.setCell ⟨k, 0, none⟩ u) g t v := by
  unfold BoxAt; rw [Below.heap_setCell _ _ _ _ hk]; exact h
/-- of what was there only these blocks have turned -/
structure Tch (gs : List Nat) (w w' : World) : Prop where
  os : w'.os = w.os
  tape : w'.tape = w.tape
  output : w'.output = w.output
  size : w.heap.size ≤ w'.heap.size
  block : ∀ k, k < w.heap.size → k ∉ gs → w'.heap[k]? = w.heap[k]?
theorem Tch.refl (gs : List Nat) (w : World) : Tch gs w w := ⟨rfl, rfl, rfl, Nat.le_refl _, fun _ _ _ => rfl⟩
theorem Tch.of {gs : List Nat} {w w' : World} (h : Below w.heap.size w w') : Tch gs w w' := ⟨h.os, h.tape, h.output, h.size, fun k hk _ => h.block k hk⟩
theorem Tch.trans {gs : List Nat} {w a b : World} (h1 : Tch gs w a) (h2 : Tch gs a b) : Tch gs w b :=
  ⟨h2.os.trans h1.os, h2.tape.trans h1.tape, h2.output.trans h1.output, Nat.le_trans h1.size h2.size, fun k hk hg => (h2.block k (Nat.lt_of_lt_of_le hk h1.size) hg).trans (h1.block k hk hg)⟩
theorem Tch.set {gs : List Nat} {w a : World} (h : Tch gs w a) {g : Nat} (hg : g ∈ gs) (u : Value) : Tch gs w (a.setCell ⟨g, 0, none⟩ u) :=
  h.trans ⟨rfl, rfl, rfl, by simp [World.setCell], fun k _ hk => Below.heap_setCell _ _ _ _ (fun e => hk (e ▸ hg))⟩
theorem Tch.setK {gs : List Nat} {w a : World} (h : Tch gs w a) {g : Nat} (hg : g ∈ gs) (k : Nat) (u : Value) : Tch gs w (a.setCell ⟨g, k, none⟩ u) :=
  h.trans ⟨rfl, rfl, rfl, by simp [World.setCell], fun q _ hq => Below.heap_setCell _ _ _ _ (fun e => hq (e ▸ hg))⟩
theorem Tch.below {gs : List Nat} {w a b : World} {B : Nat} (h : Below B w a) (ht : Tch gs a b) (hg : ∀ g ∈ gs, B ≤ g) (hB : B ≤ w.heap.size) : Below B w b :=
  ⟨ht.os.trans h.os, ht.tape.trans h.tape, ht.output.trans h.output, Nat.le_trans h.size ht.size, fun k hk => (ht.block k (by have := h.size; omega) (fun e => by have := hg k e; omega)).trans (h.block k hk)⟩
theorem Tch.box {gs : List Nat} {w w' : World} (ht : Tch gs w w') {g : Nat} {t : TypeId} {v : Value} (h : BoxAt w g t v) (hg : g ∉ gs) : BoxAt w' g t v := by
  unfold BoxAt; rw [ht.block g h.lt hg]; exact h

end Bw
end Go.Proofs.YtacfkdgepknpkalDoor

/- An answer of three: a row, a number, an error. -/
namespace Go.Proofs.YtacfkdgepknpkalDoor
namespace Bw
def takeV (A : List UInt8 × Nat × Int) : Value := .tuple #[.string ⟨A.1.toArray⟩, .int .i64 A.2.1, .int .i64 A.2.2]
end Bw
end Go.Proofs.YtacfkdgepknpkalDoor

/- What the small parts of package stuff answer: the other bit, whether a length is one, and the run that takes a bit more. -/
namespace Go.Proofs.YtacfkdgepknpkalDoor
open Go.ChangeShapes Go.WideShapes Go.ChangeAt Go.RowKit
namespace Bw
open Bm

/-- but for one block all is as it was -/
structure AtOnly (g : Nat) (w w' : World) : Prop where
  os : w'.os = w.os
  tape : w'.tape = w.tape
  output : w'.output = w.output
  size : w'.heap.size = w.heap.size
  block : ∀ k, k ≠ g → w'.heap[k]? = w.heap[k]?
theorem AtOnly.setCell (w : World) (a : Addr) (u : Value) : AtOnly a.block w (w.setCell a u) :=
  ⟨rfl, rfl, rfl, by simp [World.setCell], fun _ hk => Below.heap_setCell _ _ _ _ hk⟩
theorem AtOnly.trans {g : Nat} {a b c : World} (h : AtOnly g a b) (k : AtOnly g b c) : AtOnly g a c :=
  ⟨k.os.trans h.os, k.tape.trans h.tape, k.output.trans h.output, k.size.trans h.size, fun i hi => (k.block i hi).trans (h.block i hi)⟩
theorem AtOnly.below {g B : Nat} {w w' : World} (h : AtOnly g w w') (hB : B ≤ g) : Below B w w' :=
  ⟨h.os, h.tape, h.output, by rw [h.size]; exact Nat.le_refl _, fun k hk => h.block k (by omega)⟩
theorem AtOnly.owns {g : Nat} {w w' : World} (h : AtOnly g w w') {base : Nat} {e : TypeId} {size : Nat} {v : Value} {n : Nat} {xs : List Value} (ho : w.ownsRow base e size v n xs) (hb : g < base) : w'.ownsRow base e size v n xs := by
  obtain ⟨h1, h2⟩ := ho
  refine ⟨h1, ?_⟩
  rcases h2 with h2 | ⟨k, cap, cur, hv, hk, hh, r⟩
  · exact Or.inl h2
  · exact Or.inr ⟨k, cap, cur, hv, hk, by rw [h.block k (by omega)]; exact hh, r⟩

def isRun (w : World) (g : Nat) (p : UInt8 × Nat) : Prop := w.heap[g]? = some (.cells #[.int .u8 p.1.toNat, .int .i64 p.2] 50 (0, 0))
theorem two_set0 {w : World} {b : Nat} {v x u : Value} {t : TypeId} (h : w.heap[b]? = some (.cells #[v, x] t (0, 0))) : (w.setCell ⟨b, 0, none⟩ u).heap[b]? = some (.cells #[u, x] t (0, 0)) := by
  have hlt := lt_of_block h
  have h' : w.heap[b] = .cells #[v, x] t (0, 0) := by simpa [Array.getElem?_eq_getElem hlt] using h
  show (w.heap.modify b _)[b]? = _
  rw [Array.getElem?_eq_getElem (by simpa using hlt), Array.getElem_modify_self, h']
  rfl
theorem two_set1 {w : World} {b : Nat} {v x u : Value} {t : TypeId} (h : w.heap[b]? = some (.cells #[v, x] t (0, 0))) : (w.setCell ⟨b, 1, none⟩ u).heap[b]? = some (.cells #[v, u] t (0, 0)) := by
  have hlt := lt_of_block h
  have h' : w.heap[b] = .cells #[v, x] t (0, 0) := by simpa [Array.getElem?_eq_getElem hlt] using h
  show (w.heap.modify b _)[b]? = _
  rw [Array.getElem?_eq_getElem (by simpa using hlt), Array.getElem_modify_self, h']
  rfl

set_option maxHeartbeats 1000000 in
theorem otherS_any (c : UInt8) (w : World) (h : bit c = true) :
    Calls Tryd.prog 30 #[.int .u8 c.toNat] w fun e w' => e = .returned (.int .u8 (otb c).toNat) ∧ w' = w := by
  rcases (bit_iff c).1 h with h | h
  · have : c = 48 := UInt8.toNat_inj.1 (by show c.toNat = 48; omega)
    subst this
    go_enter Tryd.func30, Tryd.ntmps30
    go_wp2; go_ret; exact ⟨rfl, rfl⟩
  · have : c = 49 := UInt8.toNat_inj.1 (by show c.toNat = 49; omega)
    subst this
    go_enter Tryd.func30, Tryd.ntmps30
    go_wp2; go_ret; exact ⟨rfl, rfl⟩

set_option maxHeartbeats 2000000 in
theorem add_same (g : Nat) (c : UInt8) (n : Nat) (w : World) (hn : n ≤ 1000) (hg : isRun w g (c, n)) :
    Calls Tryd.prog 29 #[.pointer (some ⟨g, 0, none⟩), .int .u8 c.toNat] w fun e w' => e = .returned (.bool ((n : Int) + 1 == 5)) ∧ isRun w' g (c, n + 1) ∧ AtOnly g w w' := by
  unfold isRun at *
  have c0 := cell_of_row w g 0 _ _ _ hg
  have c1 := cell_of_row w g 1 _ _ _ hg
  have f0 : w.frozen? ⟨g, 0, none⟩ = false := by simp [World.frozen?, hg]
  have f1 : w.frozen? ⟨g, 1, none⟩ = false := by simp [World.frozen?, hg]
  simp at c0 c1
  have HG := Hid.mk hg
  clear hg
  go_enter Tryd.func29, Tryd.ntmps29
  go_wp2
  go_ret
  exact ⟨rfl, two_set1 HG.out, AtOnly.setCell w ⟨g, 1, none⟩ _⟩

set_option maxHeartbeats 2000000 in
theorem add_other (g : Nat) (d c : UInt8) (n : Nat) (w : World) (hne : c ≠ d) (hg : isRun w g (d, n)) :
    Calls Tryd.prog 29 #[.pointer (some ⟨g, 0, none⟩), .int .u8 c.toNat] w fun e w' => e = .returned (.bool false) ∧ isRun w' g (c, 1) ∧ AtOnly g w w' := by
  unfold isRun at *
  have c0 := cell_of_row w g 0 _ _ _ hg
  have c1 := cell_of_row w g 1 _ _ _ hg
  have f0 : w.frozen? ⟨g, 0, none⟩ = false := by simp [World.frozen?, hg]
  have f1 : w.frozen? ⟨g, 1, none⟩ = false := by simp [World.frozen?, hg]
  have hne' : ((c.toNat : Int) == (d.toNat : Int)) = false := by
    have : c.toNat ≠ d.toNat := fun h => hne (UInt8.toNat_inj.1 h)
    rw [beq_eq_false_iff_ne]; omega
  have c2 := cell_of_row _ g 1 _ _ _ (two_set1 (u := .int .i64 1) (two_set1 (u := .int .i64 0) (two_set0 (u := .int .u8 c.toNat) hg)))
  simp only [List.getElem?_toArray, List.getElem?_cons_succ, List.getElem?_cons_zero] at c2
  simp at c0 c1
  have HG := Hid.mk hg
  clear hg hne
  go_enter Tryd.func29, Tryd.ntmps29
  go_wp2
  go_ret
  exact ⟨rfl, two_set1 (two_set1 (two_set0 HG.out)), ((AtOnly.setCell w ⟨g, 0, none⟩ _).trans (AtOnly.setCell _ ⟨g, 1, none⟩ _)).trans (AtOnly.setCell _ ⟨g, 1, none⟩ _)⟩

theorem add_any (g : Nat) (p : UInt8 × Nat) (c : UInt8) (w : World) (hn : p.2 ≤ 1000) (hg : isRun w g p) :
    Calls Tryd.prog 29 #[.pointer (some ⟨g, 0, none⟩), .int .u8 c.toNat] w fun e w' => e = .returned (.bool ((addR p c).2 == 5)) ∧ isRun w' g (addR p c) ∧ AtOnly g w w' := by
  by_cases h : c = p.1
  · subst h
    rw [addR_same]
    refine (add_same g p.1 p.2 w hn hg).mono ?_
    rintro e w' ⟨rfl, h1, h2⟩
    refine ⟨?_, h1, h2⟩
    congr 2
    rw [Bool.eq_iff_iff]
    simp only [beq_iff_eq]
    omega
  · rw [addR_other h]
    exact add_other g p.1 c p.2 w h hg

set_option maxHeartbeats 400000 in
theorem isLength_yes (n : Int) (w : World) (h0 : 0 ≤ n) (h1 : n ≤ 1000) :
    Calls Tryd.prog 59 #[.int .i64 n] w fun e w' => e = .returned (.bool true) ∧ w' = w := by
  go_enter Tryd.func59, Tryd.ntmps59
  go_wp2; go_ret; exact ⟨rfl, rfl⟩
set_option maxHeartbeats 400000 in
theorem isLength_no (n : Int) (w : World) (h : n < 0 ∨ 1000 < n) :
    Calls Tryd.prog 59 #[.int .i64 n] w fun e w' => e = .returned (.bool false) ∧ w' = w := by
  by_cases h0 : n < 0
  · clear h
    go_enter Tryd.func59, Tryd.ntmps59
    go_wp2; go_ret; exact ⟨rfl, rfl⟩
  · have h1 : 1000 < n := by omega
    have h2 : 0 ≤ n := by omega
    have h3 : decide (n ≤ 1000) = false := by simpa using h1
    clear h h0
    go_enter Tryd.func59, Tryd.ntmps59
    go_wp2; go_ret; exact ⟨rfl, rfl⟩
end Bw
end Go.Proofs.YtacfkdgepknpkalDoor

/- What stuff.Put answers of any text: the row with a bit put in behind each five alike, and else which error. -/
namespace Go.Proofs.YtacfkdgepknpkalDoor
open Go.ChangeShapes Go.WideShapes Go.ChangeAt Go.RowKit
namespace Bw
open Bm

set_option maxHeartbeats 1000000 in
theorem put_bad (s : ByteArray) (w : World) (hs : s.size ≤ maxLen) (hc : checkE s.data.toList ≠ 0) :
    Calls Tryd.prog 13 #[.string s] w fun e w' => e = .returned (.tuple #[.string ⟨#[]⟩, .int .i64 (checkE s.data.toList)]) ∧ Below w.heap.size w w' := by
  have HS := Hid.mk hs
  have hc' : (checkE s.data.toList == 0) = false := by simpa using hc
  clear hs
  go_enter Tryd.func13, Tryd.ntmps13
  go_wp2_with fail
  refine (check_any s w HS.out).mono ?_
  rintro e w1 ⟨rfl, hb1⟩
  go_wp2_with fail
  go_ret2
  exact ⟨rfl, hb1⟩

theorem isRun_at {w w' : World} {B g : Nat} {p : UInt8 × Nat} (h : isRun w g p) (hb : Below B w w') (hg : g < B) : isRun w' g p := by
  unfold isRun at *
  rw [hb.block g hg]; exact h

set_option maxHeartbeats 8000000 in
theorem put_ok (s : ByteArray) (w : World) (hc : checkE s.data.toList = 0) :
    Calls Tryd.prog 13 #[.string s] w fun e w' => e = .returned (.tuple #[.string ⟨(putF s.data.toList).toArray⟩, .int .i64 0]) ∧ Below w.heap.size w w' := by
  obtain ⟨i0, hi, hz0, hz1, hz2⟩ := info_parts info_u8
  obtain ⟨h1000, hrow⟩ := small_of_check hc
  have hck := fun W => check_any s W (by unfold maxLen; omega)
  rw [hc] at hck
  have HR := Hid.mk hrow
  clear hc hrow
  go_enter Tryd.func13, Tryd.ntmps13
  go_wp2_with fail
  refine (hck w).mono ?_
  rintro e w1 ⟨rfl, hb1⟩
  clear hck
  have hw1 := hb1.size
  go_wp2_with fail
  go_loopw [5, 15] (fun r i wr => ∃ k : Nat, k ≤ s.size ∧ i = .int .i64 k ∧ wr.ownsRow (w1.heap.size + 1) 5 1 r (putF (s.data.toList.take k)).length (cellsOf (putF (s.data.toList.take k))) ∧ isRun wr w1.heap.size (endR (putF (s.data.toList.take k))) ∧ Below w.heap.size w wr ∧ w1.heap.size + 1 ≤ wr.heap.size) (fun _ i _ => s.size - (intOf i).toNat)
  case atStart => exact ⟨0, Nat.zero_le _, rfl, World.ownsRow_nil _ _ _ _, heap_alloc_new w1 _, hb1.alloc hw1 _, by simp⟩
  case round =>
    obtain ⟨k, hk, rfl, hown, hrun, hbel, hsz⟩ := hrel
    obtain ⟨o, ho⟩ : ∃ o, o = putF (s.data.toList.take k) := ⟨_, rfl⟩
    rw [← ho] at hown hrun
    have HO := Hid.mk ho
    have hol : o.length ≤ 2000 := by
      have := putF_len2 (s.data.toList.take k)
      rw [← ho, List.length_take] at this
      omega
    have h4 : (endR o).2 ≤ 4 := by rw [ho]; exact putF_keep _ (rowB_take HR.out k)
    have H4 := Hid.mk h4
    have HRUN := Hid.mk hrun
    clear ho h4 hrun
    by_cases hlt : k < s.size
    · have hlt' : (k : Int) < (s.size : Int) := by omega
      obtain ⟨c, hcE⟩ : ∃ c, c = s[k] := ⟨_, rfl⟩
      have hbit : bit c = true := by rw [hcE]; exact rowB_at HR.out k hlt
      have hnext : putF (s.data.toList.take (k + 1)) = putS o c := by rw [take_snoc s k hlt, putF_snoc, ← HO.out, hcE]
      have HN := Hid.mk hnext
      have HBIT := Hid.mk hbit
      have hcv : s[k] = c := hcE.symm
      clear hcE hnext hbit
      go_wp2_with (at_builtin; refine wpList_append_own _ rfl (.tmp 18) (.tmp 22) 22 rfl (w1.heap.size + 1) 5 i0 (.int .u8 0) 1 1 Tryd.underlying22 hi hz0 hz1 hz2 rfl (by decide) _ _ _ rfl (hown.alloc _) ⟨wr.heap.size, 0, none⟩ 1 1 [Value.int .u8 c.toNat] rfl rfl (by intro q u hq; match q, hq with | 0, hq => (simp at hq; subst hq; simp [Addr.add])) (by intro u hu; simp at hu; subst hu; rfl) (by unfold maxLen; omega) (by omega) (by simp; omega) ?_; intro v1 w2 hown1 hgrow1 _)
      have hbw2 : Below (w1.heap.size + 1) wr w2 := Below.grown ((Below.refl _ _).alloc hsz _) hgrow1 (by simp; omega) (fun q hq => (hown.lt q hq).1)
      have hrun2 := isRun_at HRUN.out hbw2 (by omega)
      have hbel2 := hbel.trans (hbw2.mono (Nat.le_trans hw1 (Nat.le_succ _)))
      have hsz2 : w1.heap.size + 1 ≤ w2.heap.size := Nat.le_trans hsz hbw2.size
      have hown1' : w2.ownsRow (w1.heap.size + 1) 5 1 v1 (o ++ [c]).length (cellsOf (o ++ [c])) := by
        rw [cellsOf_append, List.length_append]; exact hown1
      have HOWN1 := Hid.mk hown1'
      have hadd := add_any w1.heap.size (endR o) c w2 (by have := H4.out; omega) hrun2
      rw [← endR_snoc] at hadd
      have HADD := Hid.mk hadd
      clear hown hown1 hown1' hgrow1 hbw2 hbel hsz hrun2 HRUN hadd
      go_wp2_with fail
      refine HADD.out.mono ?_
      rintro e w3 ⟨rfl, hrun3, hat3⟩
      have hown3 := hat3.owns HOWN1.out (Nat.lt_succ_self _)
      have hbel3 := hbel2.trans (hat3.below hw1)
      have hsz3 : w1.heap.size + 1 ≤ w3.heap.size := by rw [hat3.size]; exact hsz2
      clear HOWN1 HADD hat3 hbel2 hsz2
      by_cases h5 : (endR (o ++ [c])).2 = 5
      · have h5b : ((endR (o ++ [c])).2 == 5) = true := by simpa using h5
        have hS : putS o c = o ++ [c] ++ [otb c] := by unfold putS; rw [if_pos h5]
        have HS := Hid.mk hS
        have HRUN3 := Hid.mk hrun3
        have H5 := Hid.mk h5
        have hol2 : (o ++ [c]).length ≤ 2001 := by rw [List.length_append]; simp; omega
        clear h5 hS hrun3
        go_wp2_with fail
        refine (otherS_any c w3 HBIT.out).mono ?_
        rintro e w3' ⟨rfl, hw3⟩
        subst hw3
        go_wp2_with (at_builtin; refine wpList_append_own _ rfl (.tmp 28) (.tmp 33) 22 rfl (w1.heap.size + 1) 5 i0 (.int .u8 0) 1 1 Tryd.underlying22 hi hz0 hz1 hz2 rfl (by decide) _ _ _ rfl (hown3.alloc _) ⟨w3'.heap.size, 0, none⟩ 1 1 [Value.int .u8 (otb c).toNat] rfl rfl (by intro q u hq; match q, hq with | 0, hq => (simp at hq; subst hq; simp [Addr.add])) (by intro u hu; simp at hu; subst hu; rfl) (by unfold maxLen; omega) (by omega) (by simp; omega) ?_; intro v4 w4 hown4 hgrow4 _)
        have hbw4 : Below (w1.heap.size + 1) w3' w4 := Below.grown ((Below.refl _ _).alloc hsz3 _) hgrow4 (by simp; omega) (fun q hq => (hown3.lt q hq).1)
        have hrun4 := isRun_at HRUN3.out hbw4 (by omega)
        have hbel4 := hbel3.trans (hbw4.mono (Nat.le_trans hw1 (Nat.le_succ _)))
        have hsz4 : w1.heap.size + 1 ≤ w4.heap.size := Nat.le_trans hsz3 hbw4.size
        have hown4' : w4.ownsRow (w1.heap.size + 1) 5 1 v4 (o ++ [c] ++ [otb c]).length (cellsOf (o ++ [c] ++ [otb c])) := by
          rw [cellsOf_append, show (o ++ [c] ++ [otb c]).length = (o ++ [c]).length + 1 from List.length_append ..]; exact hown4
        have HOWN4 := Hid.mk hown4'
        have HRUN4 := Hid.mk hrun4
        clear hown3 hown4 hown4' hgrow4 hbw4 hbel3 hsz3 hrun4 HRUN3
        go_wp2_with fail
        refine (otherS_any c w4 HBIT.out).mono ?_
        rintro e w4' ⟨rfl, hw4⟩
        subst hw4
        have hadd := add_any w1.heap.size (endR (o ++ [c])) (otb c) w4' (by have := H5.out; omega) HRUN4.out
        rw [← endR_snoc] at hadd
        have HADD := Hid.mk hadd
        clear hadd HRUN4
        go_wp2_with fail
        refine HADD.out.mono ?_
        rintro e w5 ⟨rfl, hrun5, hat5⟩
        have hown5 := hat5.owns HOWN4.out (Nat.lt_succ_self _)
        have hbel5 := hbel4.trans (hat5.below hw1)
        have hsz5 : w1.heap.size + 1 ≤ w5.heap.size := by rw [hat5.size]; exact hsz4
        clear HOWN4 HADD hat5 hbel4 hsz4
        go_wp2_with fail
        go_roundw
        case rel => exact ⟨k + 1, by omega, by go_num, by rw [HN.out, HS.out]; exact hown5, by rw [HN.out, HS.out]; exact hrun5, hbel5, hsz5⟩
        case measure => simp [intOf]; omega
      · have h5b : ((endR (o ++ [c])).2 == 5) = false := by simpa using h5
        have hS : putS o c = o ++ [c] := by unfold putS; rw [if_neg h5]
        have HS := Hid.mk hS
        clear h5 hS
        go_wp2_with fail
        go_roundw
        case rel => exact ⟨k + 1, by omega, by go_num, by rw [HN.out, HS.out]; exact hown3, by rw [HN.out, HS.out]; exact hrun3, hbel3, hsz3⟩
        case measure => simp [intOf]; omega
    · have e : k = s.size := by omega
      subst e
      have hfin : o = putF s.data.toList := by rw [HO.out, List.take_of_length_le (by simp)]
      subst hfin
      have hcv := convert_own hown
      clear hown
      go_wp2_with fail
      go_ret2
      exact ⟨rfl, hbel⟩

/-- what Put answers of any text -/
def putA (l : List UInt8) : Value := if checkE l = 0 then .tuple #[.string ⟨(putF l).toArray⟩, .int .i64 0] else .tuple #[.string ⟨#[]⟩, .int .i64 (checkE l)]
theorem put_any (s : ByteArray) (w : World) (hs : s.size ≤ maxLen) :
    Calls Tryd.prog 13 #[.string s] w fun e w' => e = .returned (putA s.data.toList) ∧ Below w.heap.size w w' := by
  unfold putA
  by_cases hc : checkE s.data.toList = 0
  · rw [if_pos hc]; exact put_ok s w hc
  · rw [if_neg hc]; exact put_bad s w hs hc
end Bw
end Go.Proofs.YtacfkdgepknpkalDoor

/- What stuff.Take answers of any text and any number: the bits that were there ahead of Put, how many bits they take, and else which error. -/
namespace Go.Proofs.YtacfkdgepknpkalDoor
open Go.ChangeShapes Go.WideShapes Go.ChangeAt Go.RowKit
namespace Bw
open Bm

set_option maxHeartbeats 1000000 in
theorem take_bad (s : ByteArray) (n : Int) (w : World) (hs : s.size ≤ maxLen) (hc : checkE s.data.toList ≠ 0) :
    Calls Tryd.prog 56 #[.string s, .int .i64 n] w fun e w' => e = .returned (.tuple #[.string ⟨#[]⟩, .int .i64 0, .int .i64 (checkE s.data.toList)]) ∧ Below w.heap.size w w' := by
  have HS := Hid.mk hs
  have hc' : (checkE s.data.toList == 0) = false := by simpa using hc
  clear hs
  go_enter Tryd.func56, Tryd.ntmps56
  go_wp2_with fail
  refine (check_any s w HS.out).mono ?_
  rintro e w1 ⟨rfl, hb1⟩
  go_wp2_with fail
  go_ret3
  exact ⟨rfl, hb1⟩

set_option maxHeartbeats 1000000 in
theorem take_range (s : ByteArray) (n : Int) (w : World) (hc : checkE s.data.toList = 0) (hn : n < 0 ∨ 1000 < n) :
    Calls Tryd.prog 56 #[.string s, .int .i64 n] w fun e w' => e = .returned (.tuple #[.string ⟨#[]⟩, .int .i64 0, .int .i64 3]) ∧ Below w.heap.size w w' := by
  obtain ⟨h1000, hrow⟩ := small_of_check hc
  have hck := fun W => check_any s W (by unfold maxLen; omega)
  rw [hc] at hck
  have HN := Hid.mk hn
  clear hc hrow hn
  go_enter Tryd.func56, Tryd.ntmps56
  go_wp2_with fail
  refine (hck w).mono ?_
  rintro e w1 ⟨rfl, hb1⟩
  clear hck
  go_wp2_with fail
  refine (isLength_no n w1 HN.out).mono ?_
  rintro e w2 ⟨rfl, hw2⟩
  subst hw2
  go_wp2_with fail
  go_ret3
  exact ⟨rfl, hb1⟩


set_option maxHeartbeats 8000000 in
set_option maxRecDepth 100000 in
theorem take_ok (s : ByteArray) (n : Nat) (w : World) (hc : checkE s.data.toList = 0) (hn : n ≤ 1000) :
    Calls Tryd.prog 56 #[.string s, .int .i64 n] w fun e w' => e = .returned (takeV (takeG s.data.toList n 0 [])) ∧ Below w.heap.size w w' := by
  obtain ⟨i0, hi, hz0, hz1, hz2⟩ := info_parts info_u8
  obtain ⟨h1000, hrow⟩ := small_of_check hc
  have hck := fun W => check_any s W (by unfold maxLen; omega)
  rw [hc] at hck
  clear hc hrow
  obtain ⟨A, hA⟩ : ∃ A, A = takeG s.data.toList n 0 [] := ⟨_, rfl⟩
  rw [← hA]
  have HA := Hid.mk hA
  clear hA
  have hll : s.data.toList.length = s.size := by simp
  have HLL := Hid.mk hll
  clear hll
  go_enter Tryd.func56, Tryd.ntmps56
  go_wp2_with fail
  refine (hck w).mono ?_
  rintro e w1 ⟨rfl, hb1⟩
  clear hck
  have hw1 := hb1.size
  go_wp2_with fail
  refine (isLength_yes n w1 (by omega) (by omega)).mono ?_
  rintro e w2 ⟨rfl, hw2⟩
  subst hw2
  go_wp2_with fail
  go_loopw [8, 10, 21] (fun r uu i wr => ∃ (k u : Nat) (o : List UInt8), k ≤ n ∧ u ≤ s.size ∧ i = .int .i64 k ∧ uu = .int .i64 u ∧ o.length = k ∧ (endR (s.data.toList.take u)).2 ≤ 4 ∧ takeG s.data.toList (n - k) u o = A ∧ wr.ownsRow (w2.heap.size + 1) 5 1 r o.length (cellsOf o) ∧ isRun wr w2.heap.size (endR (s.data.toList.take u)) ∧ Below w.heap.size w wr ∧ w2.heap.size + 1 ≤ wr.heap.size) (fun _ _ i _ => n - (intOf i).toNat)
  case atStart => exact ⟨0, 0, [], Nat.zero_le _, Nat.zero_le _, rfl, rfl, rfl, by simp [endR], HA.out.symm, World.ownsRow_nil _ _ _ _, heap_alloc_new w2 _, hb1.alloc hw1 _, by simp⟩
  case round =>
    obtain ⟨k, u, o, hk, hu, rfl, rfl, hol, h4, hG, hown, hrun, hbel, hsz⟩ := hrel
    have HG := Hid.mk hG
    have H4 := Hid.mk h4
    have HOL := Hid.mk hol
    have HRUN := Hid.mk hrun
    have hol2 : o.length ≤ 1000 := by omega
    clear hG h4 hrun hol
    by_cases hkn : k < n
    · have hkn' : (k : Int) < (n : Int) := by omega
      have hm : n - k = (n - (k + 1)) + 1 := by omega
      have HM := Hid.mk hm
      clear hm
      by_cases hlt : u < s.size
      · have hlt' : (u : Int) < (s.size : Int) := by omega
        obtain ⟨c, hcE⟩ : ∃ c, c = s[u] := ⟨_, rfl⟩
        have hgd : s.data.toList.getD u 0 = c := by rw [hcE, at_getD s u hlt]
        have HGD := Hid.mk hgd
        have hcv : s[u] = c := hcE.symm
        clear hcE hgd
        go_wp2_with (at_builtin; refine wpList_append_own _ rfl (.tmp 32) (.tmp 34) 22 rfl (w2.heap.size + 1) 5 i0 (.int .u8 0) 1 1 Tryd.underlying22 hi hz0 hz1 hz2 rfl (by decide) _ _ _ rfl (hown.alloc _) ⟨wr.heap.size, 0, none⟩ 1 1 [Value.int .u8 c.toNat] rfl rfl (by intro q u hq; match q, hq with | 0, hq => (simp at hq; subst hq; simp [Addr.add])) (by intro u hu; simp at hu; subst hu; rfl) (by unfold maxLen; omega) (by omega) (by simp; omega) ?_; intro v1 w3 hown1 hgrow1 _)
        have hbw3 : Below (w2.heap.size + 1) wr w3 := Below.grown ((Below.refl _ _).alloc hsz _) hgrow1 (by simp; omega) (fun q hq => (hown.lt q hq).1)
        have hrun3 := isRun_at HRUN.out hbw3 (by omega)
        have hbel3 := hbel.trans (hbw3.mono (Nat.le_trans hw1 (Nat.le_succ _)))
        have hsz3 : w2.heap.size + 1 ≤ w3.heap.size := Nat.le_trans hsz hbw3.size
        have hown1' : w3.ownsRow (w2.heap.size + 1) 5 1 v1 (o ++ [c]).length (cellsOf (o ++ [c])) := by
          rw [cellsOf_append, List.length_append]; exact hown1
        have HOWN1 := Hid.mk hown1'
        have hadd := add_any w2.heap.size (endR (s.data.toList.take u)) c w3 (by have := H4.out; omega) hrun3
        have hnx := end_next s.data.toList u (by rw [HLL.out]; exact hlt)
        rw [HGD.out] at hnx
        rw [← hnx] at hadd
        have HADD := Hid.mk hadd
        have hon := end_on s.data.toList u (by rw [HLL.out]; exact hlt) H4.out
        have HON := Hid.mk hon
        clear hown hown1 hown1' hgrow1 hbw3 hbel hsz hrun3 HRUN hadd hnx hon
        go_wp2_with fail
        refine HADD.out.mono ?_
        rintro e w4 ⟨rfl, hrun4, hat4⟩
        have hown4 := hat4.owns HOWN1.out (Nat.lt_succ_self _)
        have hbel4 := hbel3.trans (hat4.below hw1)
        have hsz4 : w2.heap.size + 1 ≤ w4.heap.size := by rw [hat4.size]; exact hsz3
        have HRUN4 := Hid.mk hrun4
        clear HOWN1 HADD hat4 hbel3 hsz3 hrun4
        by_cases h5 : (endR (s.data.toList.take (u + 1))).2 = 5
        · have h5b : ((endR (s.data.toList.take (u + 1))).2 == 5) = true := by simpa using h5
          have H5 := Hid.mk h5
          clear h5
          by_cases hlt2 : u + 1 < s.size
          · have hlt2' : (u : Int) + 1 < (s.size : Int) := by omega
            obtain ⟨d, hdE⟩ : ∃ d, d = s[u + 1] := ⟨_, rfl⟩
            have hgd2 : s.data.toList.getD (u + 1) 0 = d := by rw [hdE, at_getD s (u + 1) hlt2]
            have HGD2 := Hid.mk hgd2
            have hdv : s[u + 1] = d := hdE.symm
            clear hdE hgd2
            by_cases h6 : d = c
            · have h6' : ((d.toNat : Int) == (c.toNat : Int)) = true := by rw [h6]; simp
              have hfin : A = ([], 0, 5) := by
                rw [← HG.out, HM.out]
                exact takeG_six _ _ _ _ (by rw [HLL.out]; exact hlt2) H5.out (by rw [HGD.out, HGD2.out]; exact h6)
              subst hfin
              clear h6
              go_wp2_with fail
              go_ret3
              exact ⟨rfl, hbel4⟩
            · have h6' : ((d.toNat : Int) == (c.toNat : Int)) = false := by
                have : d.toNat ≠ c.toNat := fun h => h6 (UInt8.toNat_inj.1 h)
                rw [beq_eq_false_iff_ne]; omega
              have hG2 : takeG s.data.toList (n - (k + 1)) (u + 2) (o ++ [c]) = A := by
                rw [← HG.out, HM.out, takeG_on5 _ _ _ _ (by rw [HLL.out]; exact hlt2) H5.out (by rw [HGD.out, HGD2.out]; exact h6), HGD.out]
              have HG2 := Hid.mk hG2
              have hadd := add_any w2.heap.size (endR (s.data.toList.take (u + 1))) d w4 (by have := H5.out; omega) HRUN4.out
              have hnx := end_next s.data.toList (u + 1) (by rw [HLL.out]; exact hlt2)
              rw [HGD2.out] at hnx
              rw [← hnx] at hadd
              have HADD := Hid.mk hadd
              have hon := end_on5 s.data.toList u (by rw [HLL.out]; exact hlt2) (by rw [HGD.out, HGD2.out]; exact h6)
              have hon' : (endR (s.data.toList.take (u + 2))).2 ≤ 4 := by rw [hon]; simp
              have HON2 := Hid.mk hon'
              clear h6 hG2 hadd hnx hon hon' HRUN4
              go_wp2_with fail
              refine HADD.out.mono ?_
              rintro e w5 ⟨rfl, hrun5, hat5⟩
              have hown5 := hat5.owns hown4 (Nat.lt_succ_self _)
              have hbel5 := hbel4.trans (hat5.below hw1)
              have hsz5 : w2.heap.size + 1 ≤ w5.heap.size := by rw [hat5.size]; exact hsz4
              clear hown4 HADD hat5 hbel4 hsz4
              go_wp2_with fail
              go_roundw
              case rel => exact ⟨k + 1, u + 2, o ++ [c], by omega, by omega, by go_num, int_eq (by omega), by rw [List.length_append, HOL.out]; rfl, HON2.out, HG2.out, hown5, hrun5, hbel5, hsz5⟩
              case measure => simp [intOf]; omega
          · have hlt2' : ((u : Int) + 1 == (s.size : Int)) = true := by simp; omega
            have hfin : A = ([], 0, 7) := by
              rw [← HG.out, HM.out]
              exact takeG_end5 _ _ _ _ (by rw [HLL.out]; omega) H5.out
            subst hfin
            go_wp2_with fail
            go_ret3
            exact ⟨rfl, hbel4⟩
        · have h5b : ((endR (s.data.toList.take (u + 1))).2 == 5) = false := by simpa using h5
          have hG2 : takeG s.data.toList (n - (k + 1)) (u + 1) (o ++ [c]) = A := by
            rw [← HG.out, HM.out, takeG_on _ _ _ _ (by rw [HLL.out]; exact hlt) h5, HGD.out]
          have HG2 := Hid.mk hG2
          have hon := HON.out h5
          have HON2 := Hid.mk hon
          clear h5 hG2 hon
          go_wp2_with fail
          go_roundw
          case rel => exact ⟨k + 1, u + 1, o ++ [c], by omega, by omega, by go_num, int_eq (by omega), by rw [List.length_append, HOL.out]; rfl, HON2.out, HG2.out, hown4, HRUN4.out, hbel4, hsz4⟩
          case measure => simp [intOf]; omega
      · have hlt' : ((u : Int) == (s.size : Int)) = true := by simp; omega
        have hfin : A = ([], 0, 7) := by
          rw [← HG.out, HM.out]
          exact takeG_end _ _ _ _ (by rw [HLL.out]; omega)
        subst hfin
        clear hown
        go_wp2_with fail
        go_ret3
        exact ⟨rfl, hbel⟩
    · have e : k = n := by omega
      subst e
      have hfin : A = (o, u, 0) := by rw [← HG.out, Nat.sub_self, takeG_zero]
      subst hfin
      have hcv := convert_own hown
      clear hown
      go_wp2_with fail
      go_ret3
      exact ⟨rfl, hbel⟩
end Bw
end Go.Proofs.YtacfkdgepknpkalDoor

/- What the readers' small methods answer: a fault, plain bits, bits without those put in. -/
namespace Go.Proofs.YtacfkdgepknpkalDoor
open Go.ChangeShapes Go.WideShapes Go.ChangeAt Go.RowKit
namespace Bw
open Bm Cm Go.Sort

/-- what a reader knows of the frame -/
structure Fd where
  id : Int
  lo : Bool
  fa : Bool
  re : Bool
  sz : Int
  d : Value
/-- block g holds a reader -/
def RdAt (w : World) (g : Nat) (b : ByteArray) (S : RS) (F : Fd) : Prop :=
  w.heap[g]? = some (.cells #[.string b, .int .i64 S.u, .int .i64 S.fl, .string ⟨S.o.toArray⟩, .int .i64 F.id, .bool F.lo, .bool F.fa, .bool F.re, .int .i64 F.sz, F.d] 60 (0, 0))
theorem RdAt.lt {w : World} {g : Nat} {b : ByteArray} {S : RS} {F : Fd} (h : RdAt w g b S F) : g < w.heap.size := by
  rcases Nat.lt_or_ge g w.heap.size with h' | h'
  · exact h'
  · unfold RdAt at h; rw [Array.getElem?_eq_none h'] at h; cases h
theorem RdAt.kept {w w' : World} {g : Nat} {b : ByteArray} {S : RS} {F : Fd} (h : RdAt w g b S F) (hb : Below w.heap.size w w') : RdAt w' g b S F := by
  unfold RdAt; rw [hb.block g h.lt]; exact h
theorem RdAt.cell {w : World} {g : Nat} {b : ByteArray} {S : RS} {F : Fd} (h : RdAt w g b S F) (k : Nat) : w.cell? ⟨g, k, none⟩ = #[.string b, .int .i64 S.u, .int .i64 S.fl, .string ⟨S.o.toArray⟩, .int .i64 F.id, .bool F.lo, .bool F.fa, .bool F.re, .int .i64 F.sz, F.d][k]? := cell_of_row w g k _ _ _ h
theorem RdAt.c0 {w : World} {g : Nat} {b : ByteArray} {S : RS} {F : Fd} (h : RdAt w g b S F) : w.cell? ⟨g, 0, none⟩ = some (.string b) := h.cell 0
theorem RdAt.c1 {w : World} {g : Nat} {b : ByteArray} {S : RS} {F : Fd} (h : RdAt w g b S F) : w.cell? ⟨g, 1, none⟩ = some (.int .i64 S.u) := h.cell 1
theorem RdAt.c2 {w : World} {g : Nat} {b : ByteArray} {S : RS} {F : Fd} (h : RdAt w g b S F) : w.cell? ⟨g, 2, none⟩ = some (.int .i64 S.fl) := h.cell 2
theorem RdAt.c3 {w : World} {g : Nat} {b : ByteArray} {S : RS} {F : Fd} (h : RdAt w g b S F) : w.cell? ⟨g, 3, none⟩ = some (.string ⟨S.o.toArray⟩) := h.cell 3
theorem RdAt.c4 {w : World} {g : Nat} {b : ByteArray} {S : RS} {F : Fd} (h : RdAt w g b S F) : w.cell? ⟨g, 4, none⟩ = some (.int .i64 F.id) := h.cell 4
theorem RdAt.c5 {w : World} {g : Nat} {b : ByteArray} {S : RS} {F : Fd} (h : RdAt w g b S F) : w.cell? ⟨g, 5, none⟩ = some (.bool F.lo) := h.cell 5
theorem RdAt.c6 {w : World} {g : Nat} {b : ByteArray} {S : RS} {F : Fd} (h : RdAt w g b S F) : w.cell? ⟨g, 6, none⟩ = some (.bool F.fa) := h.cell 6
theorem RdAt.c7 {w : World} {g : Nat} {b : ByteArray} {S : RS} {F : Fd} (h : RdAt w g b S F) : w.cell? ⟨g, 7, none⟩ = some (.bool F.re) := h.cell 7
theorem RdAt.c8 {w : World} {g : Nat} {b : ByteArray} {S : RS} {F : Fd} (h : RdAt w g b S F) : w.cell? ⟨g, 8, none⟩ = some (.int .i64 F.sz) := h.cell 8
theorem RdAt.c9 {w : World} {g : Nat} {b : ByteArray} {S : RS} {F : Fd} (h : RdAt w g b S F) : w.cell? ⟨g, 9, none⟩ = some F.d := h.cell 9
theorem RdAt.z {w : World} {g : Nat} {b : ByteArray} {S : RS} {F : Fd} (h : RdAt w g b S F) (k : Nat) : w.frozen? ⟨g, k, none⟩ = false := frozen_of_row w g k _ _ h
theorem RdAt.setU {w : World} {g : Nat} {b : ByteArray} {S : RS} {F : Fd} (h : RdAt w g b S F) (n : Nat) : RdAt (w.setCell ⟨g, 1, none⟩ (.int .i64 n)) g b ⟨S.fl, n, S.o⟩ F := heap_setCell_same w g 1 _ _ _ h
theorem RdAt.setFl {w : World} {g : Nat} {b : ByteArray} {S : RS} {F : Fd} (h : RdAt w g b S F) (e : Int) : RdAt (w.setCell ⟨g, 2, none⟩ (.int .i64 e)) g b ⟨e, S.u, S.o⟩ F := heap_setCell_same w g 2 _ _ _ h
theorem RdAt.setO {w : World} {g : Nat} {b : ByteArray} {S : RS} {F : Fd} (h : RdAt w g b S F) (o : List UInt8) : RdAt (w.setCell ⟨g, 3, none⟩ (.string ⟨o.toArray⟩)) g b ⟨S.fl, S.u, o⟩ F := heap_setCell_same w g 3 _ _ _ h
theorem RdAt.setId {w : World} {g : Nat} {b : ByteArray} {S : RS} {F : Fd} (h : RdAt w g b S F) (x : Int) : RdAt (w.setCell ⟨g, 4, none⟩ (.int .i64 x)) g b S ⟨x, F.lo, F.fa, F.re, F.sz, F.d⟩ := heap_setCell_same w g 4 _ _ _ h
theorem RdAt.setLo {w : World} {g : Nat} {b : ByteArray} {S : RS} {F : Fd} (h : RdAt w g b S F) (x : Bool) : RdAt (w.setCell ⟨g, 5, none⟩ (.bool x)) g b S ⟨F.id, x, F.fa, F.re, F.sz, F.d⟩ := heap_setCell_same w g 5 _ _ _ h
theorem RdAt.setFa {w : World} {g : Nat} {b : ByteArray} {S : RS} {F : Fd} (h : RdAt w g b S F) (x : Bool) : RdAt (w.setCell ⟨g, 6, none⟩ (.bool x)) g b S ⟨F.id, F.lo, x, F.re, F.sz, F.d⟩ := heap_setCell_same w g 6 _ _ _ h
theorem RdAt.setRe {w : World} {g : Nat} {b : ByteArray} {S : RS} {F : Fd} (h : RdAt w g b S F) (x : Bool) : RdAt (w.setCell ⟨g, 7, none⟩ (.bool x)) g b S ⟨F.id, F.lo, F.fa, x, F.sz, F.d⟩ := heap_setCell_same w g 7 _ _ _ h
theorem RdAt.setSz {w : World} {g : Nat} {b : ByteArray} {S : RS} {F : Fd} (h : RdAt w g b S F) (x : Int) : RdAt (w.setCell ⟨g, 8, none⟩ (.int .i64 x)) g b S ⟨F.id, F.lo, F.fa, F.re, x, F.d⟩ := heap_setCell_same w g 8 _ _ _ h
theorem RdAt.setD {w : World} {g : Nat} {b : ByteArray} {S : RS} {F : Fd} (h : RdAt w g b S F) (x : Value) : RdAt (w.setCell ⟨g, 9, none⟩ x) g b S ⟨F.id, F.lo, F.fa, F.re, F.sz, x⟩ := heap_setCell_same w g 9 _ _ _ h
theorem Tch.rd {gs : List Nat} {w w' : World} (ht : Tch gs w w') {g : Nat} {b : ByteArray} {S : RS} {F : Fd} (h : RdAt w g b S F) (hg : g ∉ gs) : RdAt w' g b S F := by
  unfold RdAt; rw [ht.block g h.lt hg]; exact h

set_option maxHeartbeats 1000000 in
theorem fail_any (g : Nat) (b : ByteArray) (S : RS) (F : Fd) (x : Int) (w : World) (h : RdAt w g b S F) :
    Calls Tryd.prog 48 #[.pointer (some ⟨g, 0, none⟩), .int .i64 x] w fun e w' => e = .returned (.tuple #[]) ∧ RdAt w' g b (failP S x) F ∧ Tch [g] w w' := by
  have hc := h.c2
  have hz := h.z 2
  have H := Hid.mk h
  unfold failP
  clear h
  by_cases hf : S.fl = 0
  · rw [if_pos hf]
    rw [hf] at hc
    go_enter Tryd.func48, Tryd.ntmps48
    go_wp2_with fail
    go_end0
    exact ⟨rfl, H.out.setFl x, (Tch.refl _ _).setK (by simp) _ _⟩
  · rw [if_neg hf]
    have h1 : (S.fl == 0) = false := by simpa using hf
    go_enter Tryd.func48, Tryd.ntmps48
    go_wp2_with fail
    go_end0
    exact ⟨rfl, H.out, Tch.refl _ _⟩

theorem failP_7 (b : List UInt8) (S : RS) (n : Nat) (h : b.length < S.u + n) : (failP S 7).fl ≠ 0 ∧ nextP b S n = ([], failP S 7) := by
  unfold failP nextP
  by_cases hf : S.fl = 0
  · rw [if_pos hf, if_pos hf, if_pos h]
    exact ⟨by simp, rfl⟩
  · rw [if_neg hf, if_neg hf]
    exact ⟨hf, rfl⟩
set_option maxHeartbeats 2000000 in
theorem nextB_any (g n : Nat) (b : ByteArray) (S : RS) (F : Fd) (w : World) (h : RdAt w g b S F) (h1000 : b.size ≤ 1000) (hu : S.u ≤ b.size) (hn : n ≤ 1000) :
    Calls Tryd.prog 50 #[.pointer (some ⟨g, 0, none⟩), .int .i64 n] w fun e w' =>
      e = .returned (.string ⟨(nextP b.data.toList S n).1.toArray⟩) ∧ RdAt w' g b (nextP b.data.toList S n).2 F ∧ Tch [g] w w' := by
  have hbl : b.data.toList.length = b.size := by simp
  have c0 := h.c0
  have c1 := h.c1
  have c2 := h.c2
  have z1 := h.z 1
  by_cases hlt : b.size < S.u + n
  · obtain ⟨hne, he⟩ := failP_7 b.data.toList S n (by rw [hbl]; exact hlt)
    rw [he]
    have hfa := fun W hW => fail_any g b S F 7 W hW
    have hd : decide ((b.size : Int) - (S.u : Int) < (n : Int)) = true := by simp; omega
    have hnb : ((failP S 7).fl != 0) = true := by simpa using hne
    have HFA := Hid.mk hfa
    have H := Hid.mk h
    clear h hfa hbl he hne
    go_enter Tryd.func50, Tryd.ntmps50
    go_wp2_with fail
    go_quiet (fail)
    have hB : Below w.heap.size w (w.drewN nq) := ⟨rfl, rfl, rfl, Nat.le_refl _, fun _ _ => rfl⟩
    go_wp2_with fail
    refine (HFA.out _ (H.out.kept hB)).mono ?_
    rintro e w1 ⟨rfl, h1, t1⟩
    have t2 : Tch [g] w w1 := (Tch.of hB).trans t1
    have k2 := h1.c2
    have H1 := Hid.mk h1
    clear hB t1 h1 c0 c1 c2 z1 H HFA
    go_wp2_with fail
    go_ret
    exact ⟨rfl, H1.out, t2⟩
  · have hle : (S.u : Int) + (n : Int) ≤ (b.size : Int) := by omega
    have hd : decide ((b.size : Int) - (S.u : Int) < (n : Int)) = false := by simp; omega
    unfold nextP
    rw [hbl]
    by_cases hf : S.fl = 0
    · rw [if_pos hf, if_neg hlt]
      rw [hf] at c2
      have H := Hid.mk h
      have hx : (b.extract S.u (S.u + n)).data.toList = (b.data.toList.drop S.u).take n := extract_list b S.u n
      have hsl : ∀ W, (Instr.slice 9 (.string b) (some (.int .i64 (S.u : Int))) (some (.int .i64 ((S.u : Int) + (n : Int)))) none).run Tryd.prog W = .ok (.string ⟨((b.data.toList.drop S.u).take n).toArray⟩) W := by
        intro W
        rw [run_slice_string W _ b _ _ _ _ Tryd.underlying9 (by omega) (by omega) (by omega)]
        have e1 : ((S.u : Int)).toNat = S.u := by omega
        have e2 : ((S.u : Int) + (n : Int)).toNat = S.u + n := by omega
        rw [e1, e2, ba_eq hx]
      generalize ByteArray.mk ((b.data.toList.drop S.u).take n).toArray = T at *
      clear hbl hx h
      go_enter Tryd.func50, Tryd.ntmps50
      go_wp2_with fail
      go_quiet (fail)
      obtain ⟨w1, hw1⟩ : ∃ w1, w1 = w.drewN nq := ⟨_, rfl⟩
      have hB : Below w.heap.size w w1 := by rw [hw1]; exact ⟨rfl, rfl, rfl, Nat.le_refl _, fun _ _ => rfl⟩
      rw [← hw1]
      have h1 := H.out.kept hB
      have d0 := h1.c0
      have d1 := h1.c1
      have d2 := h1.c2
      rw [hf] at d2
      have y1 := h1.z 1
      have hs := h1.setU (S.u + n)
      rw [show ((S.u + n : Nat) : Int) = (S.u : Int) + (n : Int) by omega] at hs
      have ht : Tch [g] w (w1.setCell ⟨g, 1, none⟩ (.int .i64 ((S.u : Int) + (n : Int)))) := (Tch.of hB).setK (by simp) _ _
      have s0 := hs.c0
      have s1 := hs.c1
      rw [show ((S.u + n : Nat) : Int) = (S.u : Int) + (n : Int) by omega] at s1
      have HSS := Hid.mk hs
      have HT := Hid.mk ht
      clear hw1 hB h1 c0 c1 c2 z1 hs ht
      go_wp2_with fail
      go_quiet (fail)
      have hB2 : Below (w1.setCell ⟨g, 1, none⟩ (.int .i64 ((S.u : Int) + (n : Int)))).heap.size (w1.setCell ⟨g, 1, none⟩ (.int .i64 ((S.u : Int) + (n : Int)))) ((w1.setCell ⟨g, 1, none⟩ (.int .i64 ((S.u : Int) + (n : Int)))).drewN nq) := ⟨rfl, rfl, rfl, Nat.le_refl _, fun _ _ => rfl⟩
      go_wp2_with fail
      go_ret
      exact ⟨rfl, by rw [← hf]; exact HSS.out.kept hB2, HT.out.trans (Tch.of hB2)⟩
    · rw [if_neg hf]
      have hnb : (S.fl != 0) = true := by simpa using hf
      have H := Hid.mk h
      clear hbl h
      go_enter Tryd.func50, Tryd.ntmps50
      go_wp2_with fail
      go_quiet (fail)
      have hB : Below w.heap.size w (w.drewN nq) := ⟨rfl, rfl, rfl, Nat.le_refl _, fun _ _ => rfl⟩
      go_wp2_with fail
      go_ret
      exact ⟨rfl, H.out.kept hB, Tch.of hB⟩
end Bw
end Go.Proofs.YtacfkdgepknpkalDoor

/- What the readers' methods take, number and want answer. -/
namespace Go.Proofs.YtacfkdgepknpkalDoor
open Go.ChangeShapes Go.WideShapes Go.ChangeAt Go.RowKit
namespace Bw
open Bm Cm Go.Sort

theorem takeG_okP (b : List UInt8) (m : Nat) (h : (takeG b m 0 []).2.2 = 0) : (takeG b m 0 []).1.length = m := takeG_len b m h
set_option maxHeartbeats 4000000 in
theorem take_any (g n : Nat) (b : ByteArray) (S : RS) (F : Fd) (w : World) (h : RdAt w g b S F) (hc : checkE b.data.toList = 0) (ho : S.o.length + n ≤ 1000) :
    Calls Tryd.prog 47 #[.pointer (some ⟨g, 0, none⟩), .int .i64 n] w fun e w' =>
      e = .returned (.string ⟨(takeP b.data.toList S n).1.toArray⟩) ∧ RdAt w' g b (takeP b.data.toList S n).2 F ∧ Tch [g] w w' := by
  by_cases hf : S.fl = 0
  · have ht := fun W => take_ok b (S.o.length + n) W hc ho
    have hlen := takeG_okP b.data.toList (S.o.length + n)
    unfold takeP
    rw [if_pos hf]
    generalize takeG b.data.toList (S.o.length + n) 0 [] = A at *
    obtain ⟨o', u', er⟩ := A
    unfold takeV at ht
    simp only at ht hlen ⊢
    have c2 := h.c2
    rw [hf] at c2
    have hos := mk_size S.o
    have hTs := mk_size o'
    have hTl := mk_list o'
    have harg : ((S.o.length + n : Nat) : Int) = (S.o.length : Int) + (n : Int) := by omega
    rw [harg] at ht
    rw [← hos] at ht
    have r0 := fun d os => (cell_regrown h.c0 d os)
    have r3 := fun d os => (cell_regrown h.c3 d os)
    obtain ⟨O, hO⟩ : ∃ O, O = ByteArray.mk S.o.toArray := ⟨_, rfl⟩
    rw [← hO] at ht hos r3
    have hOm : O.size ≤ 1000 := by omega
    have hOn : (O.size : Int) + (n : Int) ≤ 1000 := by omega
    have HT := Hid.mk ht
    have H := Hid.mk h
    have HO := Hid.mk hO
    have HOS := Hid.mk hos
    have HLEN := Hid.mk hlen
    clear h ht hc ho hO hos hlen harg
    by_cases he : er = 0
    · subst he
      rw [if_pos rfl]
      have hl := HLEN.out rfl
      have htl : o'.length = O.size + n := by rw [hl, HOS.out]
      have hsl : ∀ W, (Instr.slice 9 (.string ⟨o'.toArray⟩) (some (.int .i64 (O.size : Int))) none none).run Tryd.prog W = .ok (.string ⟨(o'.drop S.o.length).toArray⟩) W := by
        intro W
        rw [run_slice_string_l W _ (ByteArray.mk o'.toArray) Tryd.underlying9 .i64 _ (by omega) (by rw [hTs, htl]; omega)]
        have e1 : ((O.size : Int)).toNat = S.o.length := by rw [HOS.out]; omega
        have e2 : (ByteArray.mk o'.toArray).size = S.o.length + n := by rw [hTs, htl, HOS.out]
        have e3 : ((ByteArray.mk o'.toArray).extract S.o.length (S.o.length + n)).data.toList = o'.drop S.o.length := by
          rw [extract_list, hTl, List.take_of_length_le (by rw [List.length_drop]; omega)]
        rw [e1, e2, ba_eq e3]
      obtain ⟨T, hT⟩ : ∃ T, T = ByteArray.mk o'.toArray := ⟨_, rfl⟩
      obtain ⟨X, hX⟩ : ∃ X, X = ByteArray.mk (o'.drop S.o.length).toArray := ⟨_, rfl⟩
      rw [← hT] at HT hTs hTl hsl
      rw [← hX] at hsl ⊢
      have HTT := Hid.mk hT
      have hTm : T.size ≤ 2000 := by rw [hTs]; omega
      clear hl htl hTs hTl hT hX
      go_enter Tryd.func47, Tryd.ntmps47
      go_wp2_with fail
      refine wp_region_quiet_below (by kernel_rfl) (by kernel_rfl) ?_
      set_option maxRecDepth 100000 in
      repeat (go_big_quiet_step ((go_at_call 56; exact Calls.regrown_of (HT.out _))))
      refine wpQuiet_nil ?_
      intro _ hw'
      obtain ⟨⟨dq, osq⟩, hw''⟩ := hw'
      have hbq := below_regrown w dq osq
      rw [hw'']
      generalize grow (redrawn w dq) osq = w1 at *
      clear r0 r3 hw''
      have h1 := H.out.kept hbq
      have d3 := h1.c3
      rw [← HO.out] at d3
      have z3 := h1.z 3
      have hs1 := h1.setO o'
      have z1 := hs1.z 1
      have hs2 := hs1.setU u'
      rw [← HTT.out] at hs1 hs2 z1
      have k1 := hs1.c1
      have ht2 : Tch [g] w ((w1.setCell ⟨g, 3, none⟩ (.string T)).setCell ⟨g, 1, none⟩ (.int .i64 u')) := ((Tch.of hbq).setK (by simp) _ _).setK (by simp) _ _
      have HS2 := Hid.mk hs2
      have HT2 := Hid.mk ht2
      clear hbq h1 hs1 hs2 ht2 c2
      go_wp2_with fail
      go_ret
      exact ⟨rfl, by rw [← hf]; exact HS2.out, HT2.out⟩
    · rw [if_neg he]
      have hne : (er != 0) = true := by simpa using he
      have hfl := fun W hW => fail_any g b S F er W hW
      have hfp : failP S er = ⟨er, S.u, S.o⟩ := by unfold failP; rw [if_pos hf]
      rw [hfp] at hfl
      have HF := Hid.mk hfl
      generalize ByteArray.mk o'.toArray = T at *
      clear hfl hfp hTs hTl he
      go_enter Tryd.func47, Tryd.ntmps47
      go_wp2_with fail
      refine wp_region_quiet_below (by kernel_rfl) (by kernel_rfl) ?_
      set_option maxRecDepth 100000 in
      repeat (go_big_quiet_step ((go_at_call 56; exact Calls.regrown_of (HT.out _))))
      refine wpQuiet_nil ?_
      intro _ hw'
      obtain ⟨⟨dq, osq⟩, hw''⟩ := hw'
      have hbq := below_regrown w dq osq
      rw [hw'']
      generalize grow (redrawn w dq) osq = w1 at *
      clear r0 r3 hw''
      have HR1 := Hid.mk (H.out.kept hbq)
      have HT1 := Hid.mk (show Tch [g] w w1 from Tch.of hbq)
      clear hbq c2
      go_wp2_with fail
      refine (HF.out _ HR1.out).mono ?_
      rintro e w2 ⟨rfl, h2, t2⟩
      go_wp2_with fail
      go_ret
      exact ⟨rfl, h2, HT1.out.trans t2⟩
  · have hp : takeP b.data.toList S n = ([], S) := by unfold takeP; rw [if_neg hf]
    rw [hp]
    have c2 := h.c2
    have hnb : (S.fl != 0) = true := by simpa using hf
    have H := Hid.mk h
    clear h hp hc ho
    go_enter Tryd.func47, Tryd.ntmps47
    go_wp2_with fail
    go_ret
    exact ⟨rfl, H.out, Tch.refl _ _⟩

theorem numV_row {l : List UInt8} (h : rowB l = true) (hl : l.length ≤ 62) : numE l = 0 ∧ numV l = val l := by
  have h0 : numE l = 0 := by
    unfold numE
    rw [checkE_row h (by omega), if_pos rfl, if_neg (by omega)]
  refine ⟨h0, ?_⟩
  unfold numV
  rw [if_pos h0]
set_option maxHeartbeats 2000000 in
theorem numb_any (g n : Nat) (b : ByteArray) (S : RS) (F : Fd) (w : World) (h : RdAt w g b S F) (hc : checkE b.data.toList = 0) (ho : S.o.length + n ≤ 1000) (hn : n ≤ 62) :
    Calls Tryd.prog 46 #[.pointer (some ⟨g, 0, none⟩), .int .i64 n] w fun e w' =>
      e = .returned (.int .i64 (numP b.data.toList S n).1) ∧ RdAt w' g b (numP b.data.toList S n).2 F ∧ Tch [g] w w' := by
  have ht := take_any g n b S F w h hc ho
  have hrow := takeP_row b.data.toList (small_of_check hc).2 S n
  have hlen := takeP_len b.data.toList S n
  unfold numP
  have hle : (takeP b.data.toList S n).1.length ≤ 62 := by
    rcases hlen with h' | h'
    · omega
    · rw [h']; simp
  obtain ⟨n1, n2⟩ := numV_row hrow hle
  generalize takeP b.data.toList S n = A at *
  obtain ⟨t, S'⟩ := A
  simp only at ht hle hrow n1 n2 ⊢
  have hTl := mk_list t
  generalize ByteArray.mk t.toArray = T at *
  have hnu := fun W => number_any T W (by rw [ba_size hTl]; unfold maxLen; omega)
  rw [hTl, n1, n2] at hnu
  have HT := Hid.mk ht
  have HN := Hid.mk hnu
  clear ht hrow hlen hTl hle n1 n2 hnu h hc ho hn
  generalize val t = vt at *
  go_enter Tryd.func46, Tryd.ntmps46
  go_wp2_with fail
  refine HT.out.mono ?_
  rintro e w1 ⟨rfl, h1, t1⟩
  go_wp2_with fail
  refine (HN.out _).mono ?_
  rintro e w2 ⟨rfl, hb2⟩
  have h2 := h1.kept hb2
  have t2 := t1.trans (Tch.of hb2)
  clear h1 t1 hb2
  go_wp2_with fail
  go_ret
  exact ⟨rfl, h2, t2⟩
end Bw
end Go.Proofs.YtacfkdgepknpkalDoor

/- What the reader's method want answers. -/
namespace Go.Proofs.YtacfkdgepknpkalDoor
open Go.ChangeShapes Go.WideShapes Go.ChangeAt Go.RowKit
namespace Bw
open Bm Cm Go.Sort

theorem str_eq {A B : ByteArray} {x y : List UInt8} (hA : A.data.toList = x) (hB : B.data.toList = y) : (A.toList == B.toList) = decide (x = y) := by
  rw [ByteArray.toList_eq, ByteArray.toList_eq, hA, hB, Bool.eq_iff_iff, beq_iff_eq, decide_eq_true_iff]
theorem str_ne {A B : ByteArray} {x y : List UInt8} (hA : A.data.toList = x) (hB : B.data.toList = y) : (A.toList != B.toList) = !decide (x = y) := by
  rw [bne, str_eq hA hB]
theorem RdAt.drew {w : World} {g : Nat} {b : ByteArray} {S : RS} {F : Fd} (h : RdAt w g b S F) : RdAt w.drew g b S F := h
theorem Tch.drew {gs : List Nat} {w a : World} (h : Tch gs w a) : Tch gs w a.drew := h.trans ⟨rfl, rfl, rfl, Nat.le_refl _, fun _ _ _ => rfl⟩

set_option maxHeartbeats 4000000 in
theorem want_any (g : Nat) (b l : ByteArray) (S : RS) (F : Fd) (n : Nat) (w : World) (h : RdAt w g b S F) (hc : checkE b.data.toList = 0) (hi : Inv b.data.toList S n) (hn : n + l.size ≤ 1000) :
    Calls Tryd.prog 45 #[.pointer (some ⟨g, 0, none⟩), .string l] w fun e w' =>
      e = .returned (.tuple #[]) ∧ RdAt w' g b (wantP b.data.toList S l.data.toList) F ∧ Tch [g] w w' := by
  have HI := Hid.mk hi
  have HC := Hid.mk hc
  have H := Hid.mk h
  have hll : l.data.toList.length = l.size := by simp
  have HLL := Hid.mk hll
  clear hi hc h hll
  go_enter Tryd.func45, Tryd.ntmps45
  go_wp2_with fail
  go_loopw [7] (fun i wr => ∃ j : Nat, j ≤ l.size ∧ i = .int .i64 j ∧ RdAt wr g b (wantP b.data.toList S (l.data.toList.take j)) F ∧ Tch [g] w wr) (fun i _ => l.size - (intOf i).toNat)
  case atStart => exact ⟨0, Nat.zero_le _, rfl, H.out, Tch.refl _ _⟩
  case round =>
    obtain ⟨j, hj, rfl, hR, hT⟩ := hrel
    by_cases hlt : j < l.size
    · have hlt' : (j : Int) < (l.size : Int) := by omega
      have hinv := Inv.want (small_of_check HC.out).2 (l.data.toList.take j) HI.out
      have hol := hinv.n
      rw [List.length_take, HLL.out] at hol
      have hnx : wantP b.data.toList S (l.data.toList.take (j + 1)) = wstep b.data.toList (wantP b.data.toList S (l.data.toList.take j)) (l.data.toList.getD j 0) := by
        rw [take_snocL _ _ (by rw [HLL.out]; exact hlt), wantP_snoc]
      generalize wantP b.data.toList S (l.data.toList.take j) = Sj at *
      have htk := fun W hW => take_any g 1 b Sj F W hW HC.out (by omega)
      have hxl : (l.extract j (j + 1)).data.toList = [l.data.toList.getD j 0] := by
        have hj' : j < l.data.toList.length := by rw [HLL.out]; exact hlt
        rw [extract_list l j 1, List.drop_eq_getElem_cons hj', List.getD, List.getElem?_eq_getElem hj']
        rfl
      have hsl : ∀ W, (Instr.slice 9 (.string l) (some (.int .i64 (j : Int))) (some (.int .i64 (IntKind.i64.wrap ((j : Int) + 1)))) none).run Tryd.prog W = .ok (.string (l.extract j (j + 1))) W := by
        intro W
        rw [show IntKind.i64.wrap ((j : Int) + 1) = (j : Int) + 1 by rw [IntKind.wrap_i64]; omega]
        rw [run_slice_string W _ l _ _ _ _ Tryd.underlying9 (by omega) (by omega) (by omega)]
        rfl
      generalize l.extract j (j + 1) = X at *
      generalize l.data.toList.getD j 0 = c at *
      have hTl := mk_list (takeP b.data.toList Sj 1).1
      have hcmp := str_ne hTl hxl
      have hcmq := str_eq hTl hxl
      unfold wstep at hnx
      generalize takeP b.data.toList Sj 1 = A at *
      obtain ⟨t, S'⟩ := A
      simp only at htk hcmp hcmq hnx
      generalize ByteArray.mk t.toArray = T at *
      have HTK := Hid.mk htk
      have HR := Hid.mk hR
      have HN := Hid.mk hnx
      clear hinv hol hnx htk hxl hTl hR
      by_cases hq : t = [c]
      · have hcm : (T.toList != X.toList) = false := by rw [hcmp, hq]; simp
        have hcn : (T.toList == X.toList) = true := by rw [hcmq, hq]; simp
        have hco : T.toList = X.toList := by simpa using hcn
        clear hcmp hcmq
        set_option maxRecDepth 100000 in
        go_wp2_with fail
        set_option maxRecDepth 100000 in
        go_region_with (go_at_call 47; refine (HTK.out _ HR.out.drew).mono ?_; rintro e w1 ⟨rfl, h1, t1⟩)
        all_goals focus
          have ht2 := hT.trans ((Tch.refl _ _).drew.trans t1)
          have HR1 := Hid.mk h1
          clear t1 h1 hT
          go_wp2_with fail
          go_roundw
          case rel => exact ⟨j + 1, by omega, by go_num, by rw [HN.out, if_pos hq]; exact HR1.out, ht2⟩
          case measure => simp [intOf]; omega
      · have hcm : (T.toList != X.toList) = true := by rw [hcmp]; simp [hq]
        have hcn : (T.toList == X.toList) = false := by rw [hcmq]; simp [hq]
        have hco : ¬ T.toList = X.toList := by simpa using hcn
        clear hcmq
        have hfl := fun W hW => fail_any g b S' F 4 W hW
        have HF := Hid.mk hfl
        clear hcmp hfl
        set_option maxRecDepth 100000 in
        go_wp2_with fail
        set_option maxRecDepth 100000 in
        go_region_with (go_at_call 47; refine (HTK.out _ HR.out.drew).mono ?_; rintro e w1 ⟨rfl, h1, t1⟩)
        all_goals focus
          have ht2 := hT.trans ((Tch.refl _ _).drew.trans t1)
          have HR1 := Hid.mk h1
          clear t1 h1 hT
          go_wp2_with fail
          refine (HF.out _ HR1.out).mono ?_
          rintro e w2 ⟨rfl, h2, t2⟩
          have ht3 := ht2.trans t2
          clear ht2 t2
          go_wp2_with fail
          go_roundw
          case rel => exact ⟨j + 1, by omega, by go_num, by rw [HN.out, if_neg hq]; exact h2, ht3⟩
          case measure => simp [intOf]; omega
    · have e : j = l.size := by omega
      subst e
      rw [List.take_of_length_le (by rw [HLL.out]; exact Nat.le_refl _)] at hR
      go_wp2_with fail
      go_end0
      exact ⟨rfl, hR, hT⟩
end Bw
end Go.Proofs.YtacfkdgepknpkalDoor
