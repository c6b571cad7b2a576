/- Joined out of our texts: BitsBytes, ReadMath, FrameOk, BackRead, WireApart, NameMath, WireName, WireFirstM, IsRow0, IsRow, FrameOpen. -/
import Derived.Test.YtdhmjbnpdmneiadDoorLawWireWinsPAB
import Derived.Test.YtdhmjbnpdmneiadDoorLawWireWinsPAA
import Derived.Lib.Strings
import Derived.ChangeSlices
import Derived.OpenShut
/- What bits.Bytes answers of any text: the bytes that a row of whole bytes tells, in new memory, and else which error. -/
namespace Go.Proofs.YtdhmjbnpdmneiadDoor
open Go.ChangeShapes Go.WideShapes Go.ChangeAt Go.RowKit
namespace Bw
open Bm

def byteAt (l : List UInt8) (i : Nat) : UInt8 := UInt8.ofNat (val ((l.drop (8 * i)).take 8))
def partL (l : List UInt8) (n k : Nat) : List UInt8 := (List.range n).map fun i => if i < k then byteAt l i else 0
def bytesL (l : List UInt8) : List UInt8 := (List.range (l.length / 8)).map (byteAt l)

theorem partL_length (l : List UInt8) (n k : Nat) : (partL l n k).length = n := by simp [partL]
theorem partL_zero (l : List UInt8) (n : Nat) : cellsOf (partL l n 0) = List.replicate n (Value.int .u8 0) := by
  apply List.ext_getElem?
  intro j
  by_cases hj : j < n <;> simp [partL, cellsOf, hj]
theorem partL_succ (l : List UInt8) (n k : Nat) : (cellsOf (partL l n k)).set k (.int .u8 (byteAt l k).toNat) = cellsOf (partL l n (k + 1)) := by
  apply List.ext_getElem?
  intro j
  rw [List.getElem?_set]
  by_cases hj : j < n
  · by_cases hjk : k = j
    · subst hjk; simp [partL, cellsOf, hj]
    · have h1 : (j < k + 1) = (j < k) := by simp; omega
      simp [partL, cellsOf, hj, hjk, h1]
  · simp [partL, cellsOf, hj]; omega
theorem partL_full (l : List UInt8) (n : Nat) (h : l.length / 8 = n) : partL l n n = bytesL l := by
  unfold partL bytesL
  rw [h]
  apply List.map_congr_left
  intro i hi
  rw [if_pos (by simpa using hi)]

set_option maxHeartbeats 1000000 in
theorem bytes_bad (s : ByteArray) (w : World) (hs : s.size ≤ maxLen) (hc : checkE s.data.toList ≠ 0) :
    Calls Tryd.prog 77 #[.string s] w fun e w' => e = .returned (.tuple #[.slice none 0 0, .int .i64 (checkE s.data.toList)]) ∧ Below w.heap.size w w' := by
  have HS : Hid (s.size ≤ maxLen) := hs
  have hc' : (checkE s.data.toList == 0) = false := by simpa using hc
  clear hs
  go_enter Tryd.func77, Tryd.ntmps77
  go_wp2_with fail
  refine (check_any s w HS.out).mono ?_
  rintro e w1 ⟨rfl, hb1⟩
  go_wp2_with fail
  go_ret2
  exact ⟨rfl, hb1⟩

set_option maxHeartbeats 1000000 in
theorem bytes_form (s : ByteArray) (w : World) (hc : checkE s.data.toList = 0) (h8 : s.size % 8 ≠ 0) :
    Calls Tryd.prog 77 #[.string s] w fun e w' => e = .returned (.tuple #[.slice none 0 0, .int .i64 4]) ∧ Below w.heap.size w w' := by
  have h1000 := (small_of_check hc).1
  have hck := fun W => check_any s W (by unfold maxLen; omega)
  rw [hc] at hck
  have h8' : (((s.size : Int) % 8) == 0) = false := by simp; omega
  clear hc
  go_enter Tryd.func77, Tryd.ntmps77
  go_wp2_with fail
  refine (hck w).mono ?_
  rintro e w1 ⟨rfl, hb1⟩
  clear hck
  go_wp2_with fail
  go_ret2
  exact ⟨rfl, hb1⟩

set_option maxHeartbeats 2000000 in
theorem bytes_ok (s : ByteArray) (w : World) (hc : checkE s.data.toList = 0) (n : Nat) (h8 : s.size = 8 * n) :
    Calls Tryd.prog 77 #[.string s] w fun e w' => ∃ v, e = .returned (.tuple #[v, .int .i64 0]) ∧ w'.ownsRow w.heap.size 5 1 v n (cellsOf (bytesL s.data.toList)) ∧ Below w.heap.size w w' := by
  have h1000 := (small_of_check hc).1
  have HR : Hid (rowB s.data.toList = true) := (small_of_check hc).2
  have hck := fun W => check_any s W (by unfold maxLen; omega)
  rw [hc] at hck
  have h8' : (s.size : Int) % 8 = 0 := by omega
  have hdiv : (s.size : Int) / 8 = (n : Int) := by omega
  have H8 : Hid (s.size = 8 * n) := h8
  have hn : n ≤ 125 := by omega
  clear hc h8
  obtain ⟨i0, hi, hz0, hz1, hz2⟩ := info_parts info_u8
  go_enter Tryd.func77, Tryd.ntmps77
  go_wp2_with fail
  refine (hck w).mono ?_
  rintro e w1 ⟨rfl, hb1⟩
  clear hck
  go_wp2_with (at_make; refine wpList_make_full _ rfl (.tmp 18) (.tmp 18) 28 rfl w.heap.size 5 i0 (.int .u8 0) 1 Tryd.underlying28 hi hz0 hz1 .i64 .i64 _ _ n rfl rfl (by omega) (by omega) (by rw [hz2]; omega) (by unfold maxLen; omega) hb1.size ?_; intro w2 hown hgrow)
  have hown0 : w2.ownsRow w.heap.size 5 1 (.slice (some ⟨w1.heap.size, 0, none⟩) n n) n (cellsOf (partL s.data.toList n 0)) := by
    rw [partL_zero, ← toList_madeCells_one]
    rw [Nat.mul_one] at hown
    exact hown
  have hb2 : Below w.heap.size w w2 := Below.grown hb1 hgrow hb1.size (fun q hq => by cases hq)
  clear hown hgrow h8' hdiv
  go_wp2_with fail
  go_loopw [22] (fun i wr => ∃ k : Nat, k ≤ n ∧ i = .int .i64 k ∧ wr.ownsRow w.heap.size 5 1 (.slice (some ⟨w1.heap.size, 0, none⟩) n n) n (cellsOf (partL s.data.toList n k)) ∧ Below w.heap.size w wr) (fun i _ => n - (intOf i).toNat)
  case atStart => exact ⟨0, Nat.zero_le _, rfl, hown0, hb2⟩
  case round =>
    clear hown0 hb2
    obtain ⟨k, hk, rfl, hown, hbel⟩ := hrel
    by_cases hlt : k < n
    · have hlt' : (k : Int) < (n : Int) := by omega
      have hsz : (k : Int) * 8 + 8 ≤ (s.size : Int) := by have := H8.out; omega
      have hsl : ∀ W, (Instr.slice 9 (.string s) (some (.int .i64 ((k : Int) * 8))) (some (.int .i64 (((k : Int) + 1) * 8))) none).run Tryd.prog W = .ok (.string (s.extract (8 * k) (8 * k + 8))) W := by
        intro W
        rw [run_slice_string W _ s _ _ _ _ Tryd.underlying9 (by omega) (by omega) (by omega)]
        have e1 : ((k : Int) * 8).toNat = 8 * k := by omega
        have e2 : (((k : Int) + 1) * 8).toNat = 8 * k + 8 := by omega
        rw [e1, e2]
      obtain ⟨t, htE⟩ : ∃ t, t = s.extract (8 * k) (8 * k + 8) := ⟨_, rfl⟩
      rw [← htE] at hsl
      have hts := congrArg ByteArray.size htE
      rw [ByteArray.size_extract] at hts
      have hts2 : t.size = 8 := by have := H8.out; omega
      have htl : t.data.toList = (s.data.toList.drop (8 * k)).take 8 := by rw [htE]; exact extract_list s (8 * k) 8
      have hcellv := fun W => value_any t W (by omega) (by rw [htl]; exact rowB_take (rowB_drop HR.out _) _)
      have hv255 : val t.data.toList < 256 := by
        have h1 := val_lt t.data.toList (by rw [htl]; exact rowB_take (rowB_drop HR.out _) _)
        have h2 : t.data.toList.length = 8 := by simpa using hts2
        rw [h2] at h1; exact h1
      have HB : Hid (Value.int .u8 (val t.data.toList) = Value.int .u8 (byteAt s.data.toList k).toNat) := by
        unfold byteAt
        rw [← htl]
        have : (UInt8.ofNat (val t.data.toList)).toNat = val t.data.toList := by simp; omega
        show _ = _
        rw [this]
      clear hi hz0 hz1 hz2 htE hts htl hts2
      generalize val t.data.toList = vv at *
      go_wp2_with fail
      refine (hcellv wr).mono ?_
      rintro e w3 ⟨rfl, hb3⟩
      have hown3 := ownsRow_below hown hb3
      have hc3 := hown3.cellAt k (by omega)
      have hf3 := hown3.frozenAt k
      rw [show (cellsOf (partL s.data.toList n k))[k]? = some ((cellsOf (partL s.data.toList n k))[k]'(by rw [cellsOf_length, partL_length]; exact hlt)) from List.getElem?_eq_getElem _] at hc3
      have hst := hown3.stored k (.int .u8 vv)
      rw [HB.out, partL_succ] at hst
      rw [← HB.out] at hst
      have hown4 := hst.1
      have hb4 := (hbel.trans (hb3.mono hbel.size)).grown hst.2 (Nat.le_trans hbel.size hb3.size) (fun q hq => by cases hq; exact hb1.size)
      have HO4 := Hid.mk hown4
      clear hown hown3 hst hown4 hcellv
      go_wp2_with fail
      go_roundw
      case rel => exact ⟨k + 1, by omega, by go_num, HO4.out, hb4⟩
      case measure => simp [intOf]; omega
    · have e : k = n := by omega
      subst e
      rw [partL_full _ _ (by have := H8.out; simp; omega)] at hown
      go_wp2_with fail
      go_ret2
      exact ⟨_, rfl, hown, hbel⟩
end Bw
end Go.Proofs.YtdhmjbnpdmneiadDoor

/- Reading a frame, as plain functions on lists: what is under way, part by part; of no program. -/
namespace Go.Proofs.YtdhmjbnpdmneiadDoor
namespace Bw
open Bm Cm

/-- what is under way: the fault that was told, how many bits are read, what was taken -/
structure RS where
  fl : Int
  u : Nat
  o : List UInt8
def failP (S : RS) (e : Int) : RS := if S.fl = 0 then ⟨e, S.u, S.o⟩ else S
def takeP (b : List UInt8) (S : RS) (n : Nat) : List UInt8 × RS :=
  if S.fl = 0 then
    (if (takeG b (S.o.length + n) 0 []).2.2 = 0 then ((takeG b (S.o.length + n) 0 []).1.drop S.o.length, ⟨0, (takeG b (S.o.length + n) 0 []).2.1, (takeG b (S.o.length + n) 0 []).1⟩)
     else ([], ⟨(takeG b (S.o.length + n) 0 []).2.2, S.u, S.o⟩))
  else ([], S)
def numP (b : List UInt8) (S : RS) (n : Nat) : Nat × RS := (val (takeP b S n).1, (takeP b S n).2)
def wstep (b : List UInt8) (S : RS) (c : UInt8) : RS := if (takeP b S 1).1 = [c] then (takeP b S 1).2 else failP (takeP b S 1).2 4
def wantP (b : List UInt8) (S : RS) (l : List UInt8) : RS := l.foldl (wstep b) S
theorem wantP_snoc (b : List UInt8) (S : RS) (l : List UInt8) (c : UInt8) : wantP b S (l ++ [c]) = wstep b (wantP b S l) c := by simp [wantP]
/-- so many bits as they stand -/
def nextP (b : List UInt8) (S : RS) (n : Nat) : List UInt8 × RS :=
  if S.fl = 0 then (if b.length < S.u + n then ([], ⟨7, S.u, S.o⟩) else ((b.drop S.u).take n, ⟨0, S.u + n, S.o⟩)) else ([], S)

def nm1 (b : List UInt8) (S : RS) : RS := wantP b S [48]
def nmN (b : List UInt8) (S : RS) : Nat × RS := numP b (nm1 b S) 11
def nmF (b : List UInt8) (S : RS) : List UInt8 × RS := takeP b (nmN b S).2 1
def nmL (b : List UInt8) (S : RS) : List UInt8 × RS := takeP b (nmF b S).2 1
def nm5 (b : List UInt8) (S : RS) : RS := if (nmF b S).1 = [49] then (nmL b S).2 else failP (nmL b S).2 4
def nmM (b : List UInt8) (S : RS) : Nat × RS := numP b (nm5 b S) 18
def nmR (b : List UInt8) (S : RS) : List UInt8 × RS := takeP b (nmM b S).2 1
/-- what was read of a name -/
structure NmR where
  S : RS
  id : Nat
  lo : Bool
  re : Bool
def nameP (b : List UInt8) (S : RS) : NmR :=
  if (nmL b S).1 = [49] then ⟨(nmR b S).2, (nmN b S).1 * 262144 + (nmM b S).1, true, decide ((nmR b S).1 = [49])⟩
  else ⟨(nmL b S).2, (nmN b S).1, false, decide ((nmF b S).1 = [49])⟩
def formP (b : List UInt8) (S : RS) (lo re : Bool) : RS × Bool :=
  if (takeP b S 1).1 = [49] then (if re then failP (takeP b S 1).2 4 else wantP b (takeP b S 1).2 [48, 49, 48], true)
  else (if lo then wantP b (takeP b S 1).2 [48] else (takeP b S 1).2, false)
def topD (fa : Bool) : Nat := if fa then 64 else 8
def dtN (b : List UInt8) (S : RS) : Nat := sizesL.getD (numP b S 4).1 0
def dt2 (b : List UInt8) (S : RS) (fa : Bool) : RS := if topD fa < dtN b S then failP (numP b S 4).2 4 else (numP b S 4).2
/-- what was read of the data -/
structure DtR where
  S : RS
  sz : Nat
  dt : List UInt8
def dataP (b : List UInt8) (S : RS) (fa re : Bool) : DtR :=
  if re then ⟨dt2 b S fa, dtN b S, []⟩ else ⟨(takeP b (dt2 b S fa) (8 * dtN b S)).2, 0, bytesL (takeP b (dt2 b S fa) (8 * dtN b S)).1⟩
def sumP (b : List UInt8) (S : RS) : RS := if (takeP b S 15).1 = sumL 0 S.o then (takeP b S 15).2 else failP (takeP b S 15).2 6
/-- without each fifth, the first being one -/
def unfixL : List UInt8 → Nat → List UInt8
  | [], _ => []
  | c :: l, i => if i % 5 = 0 then unfixL l (i + 1) else c :: unfixL l (i + 1)
def fixedP (b : List UInt8) (S : RS) (n : Nat) : RS :=
  if S.fl = 0 then
    (if (nextP b S (fastL S.o (b.take S.u) n).length).1 = fixL (unfixL (nextP b S (fastL S.o (b.take S.u) n).length).1 0) (lastB (b.take S.u)) then
      (if (nextP b S (fastL S.o (b.take S.u) n).length).1 = fastL S.o (b.take S.u) n then (nextP b S (fastL S.o (b.take S.u) n).length).2 else failP (nextP b S (fastL S.o (b.take S.u) n).length).2 6)
     else failP (nextP b S (fastL S.o (b.take S.u) n).length).2 5)
  else S
def heardL : List UInt8 := [49, 48, 49, 49, 49, 49, 49, 49, 49, 49]
def endP (b : List UInt8) (S : RS) : RS := if (nextP b S 10).1 = onesL ∨ (nextP b S 10).1 = heardL then (nextP b S 10).2 else failP (nextP b S 10).2 4
def rdA (b : List UInt8) : NmR := nameP b ⟨0, 0, []⟩
def rdB (b : List UInt8) : RS × Bool := formP b (rdA b).S (rdA b).lo (rdA b).re
def rdD (b : List UInt8) : DtR := dataP b (rdB b).1 (rdB b).2 (rdA b).re
def rdS (b : List UInt8) : RS := if (rdB b).2 then fixedP b (rdD b).S (rdD b).dt.length else sumP b (rdD b).S
def rdE (b : List UInt8) : RS := endP b (rdS b)
def rdF (b : List UInt8) : Fr := ⟨(rdA b).id, (rdA b).lo, (rdB b).2, (rdA b).re, (rdD b).sz, (rdD b).dt⟩

theorem takeG_row (b : List UInt8) (hb : rowB b = true) : ∀ m u o, rowB o = true → rowB (takeG b m u o).1 = true
  | 0, _, _, ho => ho
  | m + 1, u, o, ho => by
    rw [takeG]
    split
    · rfl
    · rename_i h
      have hbit : bit (b.getD u 0) = true := by
        have hu : u < b.length := by omega
        rw [List.getD, List.getElem?_eq_getElem hu, Option.getD_some]
        exact rowB_all.1 hb _ (List.getElem_mem hu)
      have ho' : rowB (o ++ [b.getD u 0]) = true := by rw [rowB_snoc, ho, hbit]; rfl
      split
      · split
        · rfl
        · split
          · rfl
          · exact takeG_row b hb m _ _ ho'
      · exact takeG_row b hb m _ _ ho'
theorem takeG_len (b : List UInt8) (m : Nat) : (takeG b m 0 []).2.2 = 0 → (takeG b m 0 []).1.length = m := by
  intro h
  have := (takeG_ok b m 0 [] (takeG b m 0 []).1 (takeG b m 0 []).2.1 (by rw [← h])).1
  simpa using this

theorem takeG_in (b : List UInt8) : ∀ m u o, u ≤ b.length → o.length ≤ u → (takeG b m u o).2.2 = 0 → (takeG b m u o).2.1 ≤ b.length ∧ (takeG b m u o).1.length ≤ (takeG b m u o).2.1
  | 0, _, _, h1, h2, _ => ⟨h1, h2⟩
  | m + 1, u, o, h1, h2, h => by
    rw [takeG] at h ⊢
    split at h
    · cases h
    · rename_i hu
      rw [if_neg hu]
      split at h
      · rename_i h5
        rw [if_pos h5]
        split at h
        · cases h
        · rename_i hu2
          rw [if_neg hu2]
          split at h
          · cases h
          · rename_i h6
            rw [if_neg h6]
            exact takeG_in b m _ _ (by omega) (by simp; omega) h
      · rename_i h5
        rw [if_neg h5]
        exact takeG_in b m _ _ (by omega) (by simp; omega) h
/-- what is under way is right: a row, and no more than is there -/
structure Inv (b : List UInt8) (S : RS) (n : Nat) : Prop where
  row : rowB S.o = true
  u : S.u ≤ b.length
  ou : S.o.length ≤ S.u
  n : S.o.length ≤ n
theorem Inv.start (b : List UInt8) : Inv b ⟨0, 0, []⟩ 0 := ⟨rfl, Nat.zero_le _, Nat.le_refl _, Nat.le_refl _⟩
theorem Inv.up {b : List UInt8} {S : RS} {n m : Nat} (h : Inv b S n) (hm : n ≤ m) : Inv b S m := ⟨h.row, h.u, h.ou, Nat.le_trans h.n hm⟩
theorem Inv.fail {b : List UInt8} {S : RS} {n : Nat} (h : Inv b S n) (e : Int) : Inv b (failP S e) n := by
  unfold failP
  split
  · exact ⟨h.row, h.u, h.ou, h.n⟩
  · exact h
theorem Inv.take {b : List UInt8} {S : RS} {n : Nat} (hb : rowB b = true) (h : Inv b S n) (k : Nat) : Inv b (takeP b S k).2 (n + k) := by
  unfold takeP
  split
  · split
    · rename_i h0
      have h1 := takeG_in b (S.o.length + k) 0 [] (Nat.zero_le _) (Nat.le_refl _) h0
      refine ⟨takeG_row b hb _ _ _ rfl, h1.1, h1.2, ?_⟩
      show (takeG b (S.o.length + k) 0 []).1.length ≤ _
      rw [takeG_len b _ h0]
      have := h.n
      omega
    · exact ⟨h.row, h.u, h.ou, by have := h.n; show S.o.length ≤ _; omega⟩
  · exact h.up (by omega)
theorem Inv.num {b : List UInt8} {S : RS} {n : Nat} (hb : rowB b = true) (h : Inv b S n) (k : Nat) : Inv b (numP b S k).2 (n + k) := h.take hb k
theorem Inv.wstep {b : List UInt8} {S : RS} {n : Nat} (hb : rowB b = true) (h : Inv b S n) (c : UInt8) : Inv b (wstep b S c) (n + 1) := by
  unfold Bw.wstep
  split
  · exact h.take hb 1
  · exact (h.take hb 1).fail 4
theorem Inv.want {b : List UInt8} (hb : rowB b = true) : ∀ (l : List UInt8) {S : RS} {n : Nat}, Inv b S n → Inv b (wantP b S l) (n + l.length)
  | [], _, _, h => h
  | c :: l, _, n, h => by
    have := Inv.want hb l (h.wstep hb c)
    rw [List.length_cons, show n + (l.length + 1) = n + 1 + l.length by omega]
    exact this
theorem Inv.next {b : List UInt8} {S : RS} {n : Nat} (h : Inv b S n) (k : Nat) : Inv b (nextP b S k).2 n := by
  unfold nextP
  split
  · split
    · exact ⟨h.row, h.u, h.ou, h.n⟩
    · exact ⟨h.row, by show S.u + k ≤ _; omega, by have := h.ou; show S.o.length ≤ S.u + k; omega, h.n⟩
  · exact h
/-- what was taken: so many bits, or none -/
theorem takeP_len (b : List UInt8) (S : RS) (k : Nat) : (takeP b S k).1.length = k ∨ (takeP b S k).1 = [] := by
  unfold takeP
  split
  · split
    · rename_i h0
      left
      rw [List.length_drop, takeG_len b _ h0]; omega
    · exact .inr rfl
  · exact .inr rfl
theorem takeP_row (b : List UInt8) (hb : rowB b = true) (S : RS) (k : Nat) : rowB (takeP b S k).1 = true := by
  unfold takeP
  split
  · split
    · exact rowB_drop (takeG_row b hb _ _ _ rfl) _
    · rfl
  · rfl
theorem rowB_dropP {l : List UInt8} (h : rowB l = true) (k : Nat) : rowB (l.drop k) = true := rowB_drop h k
theorem nextP_row (b : List UInt8) (hb : rowB b = true) (S : RS) (k : Nat) : rowB (nextP b S k).1 = true := by
  unfold nextP
  split
  · split
    · rfl
    · exact rowB_take (rowB_drop hb _) _
  · rfl
theorem nextP_len (b : List UInt8) (S : RS) (k : Nat) : (nextP b S k).1.length ≤ k := by
  unfold nextP
  split
  · split
    · exact Nat.zero_le _
    · simp; omega
  · exact Nat.zero_le _
theorem numP_lt (b : List UInt8) (hb : rowB b = true) (S : RS) (k : Nat) : (numP b S k).1 < 2 ^ k := by
  have h := val_lt _ (takeP_row b hb S k)
  rcases takeP_len b S k with h1 | h1
  · rw [h1] at h; exact h
  · show val (takeP b S k).1 < _
    rw [h1]; exact Nat.two_pow_pos k

/-- where one is when p was taken of what Put made -/
def stP (p : List UInt8) : RS := ⟨0, (putF p).length, p⟩
theorem takeP_put (T r p c t : List UInt8) (n : Nat) (hT : T = p ++ (c ++ t)) (hrow : rowB T = true) (hn : c.length = n) : takeP (putF T ++ r) (stP p) n = (c, stP (p ++ c)) := by
  subst hn
  have hT' : T = (p ++ c) ++ t := by rw [hT, List.append_assoc]
  obtain ⟨t', ht'⟩ := putF_append (p ++ c) t
  have hrow' : rowB ([] ++ (p ++ c)) = true := by
    rw [hT', rowB_append] at hrow
    simp only [Bool.and_eq_true] at hrow
    exact hrow.1
  have h := take_put (t' ++ r) (p ++ c) [] hrow'
  rw [List.nil_append, putF_nil, List.length_nil, List.length_append] at h
  have hb : putF T ++ r = putF (p ++ c) ++ (t' ++ r) := by rw [hT', ht', List.append_assoc]
  unfold takeP stP
  simp only
  rw [if_pos trivial, hb, h]
  simp
theorem numP_put (T r p c t : List UInt8) (n : Nat) (hT : T = p ++ (c ++ t)) (hrow : rowB T = true) (hn : c.length = n) : numP (putF T ++ r) (stP p) n = (val c, stP (p ++ c)) := by
  unfold numP
  rw [takeP_put T r p c t n hT hrow hn]
theorem wstep_put (T r p t : List UInt8) (c : UInt8) (hT : T = p ++ ([c] ++ t)) (hrow : rowB T = true) : wstep (putF T ++ r) (stP p) c = stP (p ++ [c]) := by
  unfold wstep
  rw [takeP_put T r p [c] t 1 hT hrow rfl, if_pos rfl]

theorem name_short (T r t : List UInt8) (id : Nat) (re : Bool) (hid : id < 2 ^ 11) (hT : T = [48] ++ (bitsHead id 11 11 ++ ([bitB re] ++ ([48] ++ t)))) (hrow : rowB T = true) :
    nameP (putF T ++ r) ⟨0, 0, []⟩ = ⟨stP ([48] ++ bitsHead id 11 11 ++ [bitB re] ++ [48]), id, false, re⟩ := by
  have h0 : (⟨0, 0, []⟩ : RS) = stP [] := rfl
  rw [h0]
  have h1 : nm1 (putF T ++ r) (stP []) = stP [48] := by
    unfold nm1 wantP
    exact wstep_put T r [] _ 48 hT hrow
  have h2 : nmN (putF T ++ r) (stP []) = (id, stP ([48] ++ bitsHead id 11 11)) := by
    unfold nmN
    rw [h1, numP_put T r [48] (bitsHead id 11 11) _ 11 hT hrow (bitsHead_length _ _ _), val_row _ _ hid]
  have h3 : nmF (putF T ++ r) (stP []) = ([bitB re], stP ([48] ++ bitsHead id 11 11 ++ [bitB re])) := by
    unfold nmF
    rw [h2]
    exact takeP_put T r ([48] ++ bitsHead id 11 11) [bitB re] ([48] ++ t) 1 (by rw [hT]; simp) hrow rfl
  have h4 : nmL (putF T ++ r) (stP []) = ([48], stP ([48] ++ bitsHead id 11 11 ++ [bitB re] ++ [48])) := by
    unfold nmL
    rw [h3]
    exact takeP_put T r ([48] ++ bitsHead id 11 11 ++ [bitB re]) [48] t 1 (by rw [hT]; simp) hrow rfl
  unfold nameP
  rw [h4, h3, h2]
  simp only
  rw [if_neg (by decide)]
  cases re <;> rfl
theorem name_long (T r t x y : List UInt8) (id : Nat) (re : Bool) (hx : x.length = 11) (hy : y.length = 18) (hxy : val x * 262144 + val y = id) (hT : T = [48] ++ (x ++ ([49] ++ ([49] ++ (y ++ ([bitB re] ++ t)))))) (hrow : rowB T = true) :
    nameP (putF T ++ r) ⟨0, 0, []⟩ = ⟨stP ([48] ++ x ++ [49] ++ [49] ++ y ++ [bitB re]), id, true, re⟩ := by
  have h0 : (⟨0, 0, []⟩ : RS) = stP [] := rfl
  rw [h0]
  have h1 : nm1 (putF T ++ r) (stP []) = stP [48] := by
    unfold nm1 wantP
    exact wstep_put T r [] _ 48 hT hrow
  have h2 : nmN (putF T ++ r) (stP []) = (val x, stP ([48] ++ x)) := by
    unfold nmN
    rw [h1, numP_put T r [48] x _ 11 hT hrow hx]
  have h3 : nmF (putF T ++ r) (stP []) = ([49], stP ([48] ++ x ++ [49])) := by
    unfold nmF
    rw [h2]
    exact takeP_put T r ([48] ++ x) [49] ([49] ++ (y ++ ([bitB re] ++ t))) 1 (by rw [hT]; simp) hrow rfl
  have h4 : nmL (putF T ++ r) (stP []) = ([49], stP ([48] ++ x ++ [49] ++ [49])) := by
    unfold nmL
    rw [h3]
    exact takeP_put T r ([48] ++ x ++ [49]) [49] (y ++ ([bitB re] ++ t)) 1 (by rw [hT]; simp) hrow rfl
  have h5 : nm5 (putF T ++ r) (stP []) = stP ([48] ++ x ++ [49] ++ [49]) := by
    unfold nm5
    rw [h3, h4, if_pos rfl]
  have h6 : nmM (putF T ++ r) (stP []) = (val y, stP ([48] ++ x ++ [49] ++ [49] ++ y)) := by
    unfold nmM
    rw [h5]
    exact numP_put T r ([48] ++ x ++ [49] ++ [49]) y ([bitB re] ++ t) 18 (by rw [hT]; simp) hrow hy
  have h7 : nmR (putF T ++ r) (stP []) = ([bitB re], stP ([48] ++ x ++ [49] ++ [49] ++ y ++ [bitB re])) := by
    unfold nmR
    rw [h6]
    exact takeP_put T r ([48] ++ x ++ [49] ++ [49] ++ y) [bitB re] t 1 (by rw [hT]; simp) hrow rfl
  unfold nameP
  rw [h4, h7, h2, h6]
  simp only
  rw [if_pos trivial, hxy]
  cases re <;> rfl
end Bw
end Go.Proofs.YtdhmjbnpdmneiadDoor

/- What it says of a frame that it is right; of no program. -/
namespace Go.Proofs.YtdhmjbnpdmneiadDoor
namespace Bw
open Bm Cm
theorem frE_ok {f : Fr} (h : frE f = 0) : 0 ≤ f.id ∧ f.id ≤ topI f.lo ∧ (f.re = true → f.fa = false ∧ f.dt.length = 0) ∧ 0 ≤ f.sz ∧ f.sz ≤ 8 ∧ (f.re = false → f.sz = 0) ∧ f.dt.length ≤ 64 ∧ (f.fa = false → f.dt.length ≤ 8) ∧ f.dt.length ∈ sizesL := by
  obtain ⟨id, lo, fa, re, sz, dt⟩ := f
  unfold frE frEn at h
  simp only at h ⊢
  split at h
  · cases h
  · split at h
    · cases h
    · split at h
      · cases h
      · split at h
        · cases h
        · split at h
          · rename_i h1 h2 h3 h4 h5
            refine ⟨by omega, by omega, fun hr => ?_, by omega, by omega, fun hr => ?_, by omega, fun hf => ?_, h5⟩
            · subst hr
              cases fa
              · exact ⟨rfl, by simpa using h2⟩
              · exact absurd ⟨rfl, .inl rfl⟩ h2
            · subst hr
              have : ¬ 0 < sz := fun h => h3 (.inr (.inr ⟨h, rfl⟩))
              omega
            · subst hf
              have : ¬ 8 < dt.length := fun h => h4 (.inr ⟨h, rfl⟩)
              omega
          · cases h
end Bw
end Go.Proofs.YtdhmjbnpdmneiadDoor

/- What is sent is read: plain facts on lists; of no program. -/
namespace Go.Proofs.YtdhmjbnpdmneiadDoor
namespace Bw
open Bm Cm

theorem unfix_fix (l : List UInt8) (a : UInt8) : ∀ i, i ≤ l.length → unfixL (fixR l a i) 0 = l.take i ∧ (fixR l a i).length = i + (i + 3) / 4
  | 0, _ => by simp [fixR, unfixL]
  | i + 1, h => by
    obtain ⟨h1, h2⟩ := unfix_fix l a i (by omega)
    have hs : ∀ (x : List UInt8) (j : Nat) (c : UInt8), unfixL (x ++ [c]) j = unfixL x j ++ (if (j + x.length) % 5 = 0 then [] else [c]) := by
      intro x
      induction x with
      | nil => intro j c; simp only [List.nil_append, unfixL, List.length_nil, Nat.add_zero]
      | cons d x ih =>
        intro j c
        rw [List.cons_append, unfixL, unfixL, ih, List.length_cons, show j + 1 + x.length = j + (x.length + 1) by omega]
        split <;> simp
    have ht : l.take (i + 1) = l.take i ++ [l.getD i 0] := take_snocL l i (by omega)
    rw [fixR]
    by_cases h4 : i % 4 = 0
    · rw [if_pos h4]
      refine ⟨?_, by simp [h2]; omega⟩
      rw [hs, hs, h1, ht, h2]
      have e1 : (0 + (i + (i + 3) / 4)) % 5 = 0 := by omega
      have e2 : ¬ (0 + (fixR l a i ++ [otb (fixP l a i)]).length) % 5 = 0 := by simp [h2]; omega
      rw [if_pos e1, if_neg e2]; simp
    · rw [if_neg h4]
      refine ⟨?_, by simp [h2]; omega⟩
      rw [hs, h1, ht, h2]
      have e2 : ¬ (0 + (i + (i + 3) / 4)) % 5 = 0 := by omega
      rw [if_neg e2]
theorem unfix_fixL (l : List UInt8) (a : UInt8) : unfixL (fixL l a) 0 = l := by
  unfold fixL
  rw [(unfix_fix l a l.length (Nat.le_refl _)).1, List.take_length]
theorem bytesL_ofL (l : List UInt8) : bytesL (ofL l) = l := by
  unfold bytesL
  rw [ofL_length, Nat.mul_div_cancel_left _ (by omega : 0 < 8)]
  apply List.ext_getElem
  · simp
  intro i h1 h2
  have hi : i < l.length := h2
  simp only [List.getElem_map, List.getElem_range]
  unfold byteAt
  rw [ofL_drop, List.drop_eq_getElem_cons hi, ofL_cons, List.take_append_of_le_length (by rw [bitsHead_length]; omega), List.take_of_length_le (by rw [bitsHead_length]; omega), val_row _ _ (by have := (l[i]).toNat_lt; omega)]
  exact UInt8.ofNat_toNat
theorem sizes_at {n : Nat} (h : n ∈ sizesL) : sizesL.getD (sizesL.idxOf n) 0 = n ∧ sizesL.idxOf n < 16 ∧ n ≤ 64 := by
  have : ∀ m ∈ sizesL, sizesL.getD (sizesL.idxOf m) 0 = m ∧ sizesL.idxOf m < 16 ∧ m ≤ 64 := by decide +kernel
  exact this n h
theorem sizes_small {n : Nat} (h : n ≤ 8) : sizesL.getD n 0 = n := by
  have : ∀ m : Fin 9, sizesL.getD m 0 = m := by decide +kernel
  exact this ⟨n, by omega⟩
/-- what is read ahead of the form -/
theorem name_back (f : Fr) (T r t : List UInt8) (hE : frE f = 0) (hT : T = ([48] ++ nameL f) ++ t) (hrow : rowB T = true) :
    nameP (putF T ++ r) ⟨0, 0, []⟩ = ⟨stP ([48] ++ nameL f), f.id.toNat, f.lo, f.re⟩ := by
  obtain ⟨e1, e2, -⟩ := frE_ok hE
  unfold nameL at hT ⊢
  cases hlo : f.lo
  · rw [hlo] at hT e2
    have hid : f.id.toNat < 2 ^ 11 := by simp [topI] at e2; omega
    simp only [Bool.false_eq_true, if_false] at hT ⊢
    rw [name_short T r t f.id.toNat f.re hid (by rw [hT]; simp) hrow]
    simp
  · rw [hlo] at hT e2
    have hid : f.id.toNat < 2 ^ 29 := by simp [topI] at e2; omega
    simp only [if_true] at hT ⊢
    have hv := val_row f.id.toNat 29 hid
    have hd : ((bitsHead f.id.toNat 29 29).drop 11).length = 18 := by simp [bitsHead_length]
    rw [← List.take_append_drop 11 (bitsHead f.id.toNat 29 29), val_append, hd] at hv
    rw [name_long T r t ((bitsHead f.id.toNat 29 29).take 11) ((bitsHead f.id.toNat 29 29).drop 11) f.id.toNat f.re (by simp [bitsHead_length]) hd hv (by rw [hT]; simp) hrow]
    simp
theorem form_back (f : Fr) (T r p t : List UInt8) (hE : frE f = 0) (hT : T = p ++ (midL f ++ t)) (hrow : rowB T = true) :
    formP (putF T ++ r) (stP p) f.lo f.re = (stP (p ++ midL f), f.fa) := by
  obtain ⟨-, -, e3, -⟩ := frE_ok hE
  unfold formP
  unfold midL at hT ⊢
  cases hfa : f.fa
  · rw [hfa] at hT
    cases hlo : f.lo
    · rw [hlo] at hT
      simp only [Bool.false_eq_true, if_false] at hT ⊢
      rw [takeP_put T r p [48] t 1 hT hrow rfl, if_neg (by simp)]
    · rw [hlo] at hT
      simp only [Bool.false_eq_true, if_false, if_true] at hT ⊢
      rw [takeP_put T r p [48] ([48] ++ t) 1 (by rw [hT]; simp) hrow rfl, if_neg (by simp)]
      have h2 : wantP (putF T ++ r) (stP (p ++ [48])) [48] = stP (p ++ [48] ++ [48]) := wstep_put T r (p ++ [48]) t 48 (by rw [hT]; simp) hrow
      simp only [h2]
      simp
  · rw [hfa] at hT e3
    have hre : f.re = false := by
      cases h : f.re
      · rfl
      · exact absurd (e3 h).1 (by decide)
    simp only [if_true] at hT ⊢
    rw [takeP_put T r p [49] ([48, 49, 48] ++ t) 1 (by rw [hT]; simp) hrow rfl, if_pos rfl, hre]
    have h2 : wantP (putF T ++ r) (stP (p ++ [49])) [48, 49, 48] = stP (p ++ [49] ++ [48] ++ [49] ++ [48]) := by
      show wstep _ (wstep _ (wstep _ _ 48) 49) 48 = _
      rw [wstep_put T r (p ++ [49]) ([49, 48] ++ t) 48 (by rw [hT]; simp) hrow, wstep_put T r (p ++ [49] ++ [48]) ([48] ++ t) 49 (by rw [hT]; simp) hrow, wstep_put T r (p ++ [49] ++ [48] ++ [49]) t 48 (by rw [hT]; simp) hrow]
    simp only [h2]
    simp
theorem data_back (f : Fr) (T r p t : List UInt8) (hE : frE f = 0) (hT : T = p ++ (bitsHead (codeN f) 4 4 ++ (ofL f.dt ++ t))) (hrow : rowB T = true) :
    dataP (putF T ++ r) (stP p) f.fa f.re = ⟨stP (p ++ bitsHead (codeN f) 4 4 ++ ofL f.dt), f.sz.toNat, f.dt⟩ := by
  obtain ⟨-, -, e3, e4, e5, e6, e7, e8, e9⟩ := frE_ok hE
  have hsz := sizes_at e9
  have hcode : codeN f < 2 ^ 4 := by
    unfold codeN
    split
    · omega
    · exact hsz.2.1
  have hn : numP (putF T ++ r) (stP p) 4 = (codeN f, stP (p ++ bitsHead (codeN f) 4 4)) := by
    rw [numP_put T r p (bitsHead (codeN f) 4 4) _ 4 hT hrow (bitsHead_length _ _ _), val_row _ _ hcode]
  have hd : dtN (putF T ++ r) (stP p) = sizesL.getD (codeN f) 0 := by unfold dtN; rw [hn]
  cases hre : f.re
  · have hc : codeN f = sizesL.idxOf f.dt.length := by unfold codeN; rw [hre]; rfl
    have hdn : dtN (putF T ++ r) (stP p) = f.dt.length := by rw [hd, hc]; exact hsz.1
    have h2 : dt2 (putF T ++ r) (stP p) f.fa = stP (p ++ bitsHead (codeN f) 4 4) := by
      unfold dt2
      rw [hdn, hn, if_neg]
      unfold topD
      cases hfa : f.fa
      · have := e8 hfa; simp; omega
      · simp; omega
    unfold dataP
    rw [h2, hdn, takeP_put T r (p ++ bitsHead (codeN f) 4 4) (ofL f.dt) t (8 * f.dt.length) (by rw [hT]; simp) hrow (ofL_length _), bytesL_ofL, e6 hre]
    rfl
  · have hc : codeN f = f.sz.toNat := by unfold codeN; rw [hre]; rfl
    obtain ⟨hfa, hdt⟩ := e3 hre
    have hdn : dtN (putF T ++ r) (stP p) = f.sz.toNat := by rw [hd, hc]; exact sizes_small (by omega)
    have h2 : dt2 (putF T ++ r) (stP p) f.fa = stP (p ++ bitsHead (codeN f) 4 4) := by
      unfold dt2
      rw [hdn, hn, if_neg]
      unfold topD
      rw [hfa]; simp; omega
    have hnil : f.dt = [] := List.eq_nil_of_length_eq_zero hdt
    unfold dataP
    rw [h2, hdn, hnil]
    simp [ofL]
/-- a frame's bits ahead of the last ten -/
def preL (f : Fr) : List UInt8 := if f.fa then putF (headL f) ++ fastL (headL f) (putF (headL f)) f.dt.length else putF (headL f ++ sumL 0 (headL f))
theorem bitsL_pre (f : Fr) : bitsL f = preL f ++ onesL := by unfold bitsL preL; split <;> rfl
theorem end_back (x e rest o : List UInt8) (he : e = onesL ∨ e = heardL) : endP (x ++ (e ++ rest)) ⟨0, x.length, o⟩ = ⟨0, x.length + 10, o⟩ := by
  have hl : e.length = 10 := by rcases he with rfl | rfl <;> rfl
  have h : nextP (x ++ (e ++ rest)) ⟨0, x.length, o⟩ 10 = (e, ⟨0, x.length + 10, o⟩) := by
    unfold nextP
    simp only
    rw [if_pos trivial, if_neg (by simp; omega), List.drop_left, ← hl, List.take_left]
  unfold endP
  rw [h, if_pos he]
theorem read_back (f : Fr) (e rest : List UInt8) (hE : frE f = 0) (he : e = onesL ∨ e = heardL) :
    (rdE (preL f ++ (e ++ rest))).fl = 0 ∧ (rdE (preL f ++ (e ++ rest))).u = (preL f).length + 10 ∧ rdF (preL f ++ (e ++ rest)) = f := by
  obtain ⟨e1, -, -, e4, -⟩ := frE_ok hE
  have hh : headL f = ([48] ++ nameL f) ++ (midL f ++ (bitsHead (codeN f) 4 4 ++ ofL f.dt)) := by unfold headL; simp
  have hp : [48] ++ nameL f ++ midL f ++ bitsHead (codeN f) 4 4 ++ ofL f.dt = headL f := rfl
  cases hfa : f.fa
  · have hb : preL f ++ (e ++ rest) = putF (headL f ++ sumL 0 (headL f)) ++ (e ++ rest) := by unfold preL; rw [hfa]; rfl
    have hrow : rowB (headL f ++ sumL 0 (headL f)) = true := by rw [rowB_append, headL_row, sumL_row]; rfl
    have hpl : preL f = putF (headL f ++ sumL 0 (headL f)) := by unfold preL; rw [hfa]; rfl
    rw [hb]
    have hA : rdA (putF (headL f ++ sumL 0 (headL f)) ++ (e ++ rest)) = ⟨stP ([48] ++ nameL f), f.id.toNat, f.lo, f.re⟩ :=
      name_back f _ _ ((midL f ++ (bitsHead (codeN f) 4 4 ++ ofL f.dt)) ++ sumL 0 (headL f)) hE (by rw [hh]; simp only [List.append_assoc]) hrow
    have hB : rdB (putF (headL f ++ sumL 0 (headL f)) ++ (e ++ rest)) = (stP ([48] ++ nameL f ++ midL f), f.fa) := by
      unfold rdB
      rw [hA]
      exact form_back f _ _ _ ((bitsHead (codeN f) 4 4 ++ ofL f.dt) ++ sumL 0 (headL f)) hE (by rw [hh]; simp only [List.append_assoc]) hrow
    have hD : rdD (putF (headL f ++ sumL 0 (headL f)) ++ (e ++ rest)) = ⟨stP (headL f), f.sz.toNat, f.dt⟩ := by
      unfold rdD
      rw [hA, hB, ← hp]
      exact data_back f _ _ _ (sumL 0 (headL f)) hE (by rw [hh]; simp only [List.append_assoc]) hrow
    have hS : rdS (putF (headL f ++ sumL 0 (headL f)) ++ (e ++ rest)) = stP (headL f ++ sumL 0 (headL f)) := by
      unfold rdS
      rw [hB, hD, hfa]
      simp only [Bool.false_eq_true, if_false]
      unfold sumP
      rw [takeP_put _ _ (headL f) (sumL 0 (headL f)) [] 15 (by simp) hrow (sumL_len _ _)]
      rw [if_pos (show sumL 0 (headL f) = sumL 0 (stP (headL f)).o from rfl)]
    have hEe : rdE (putF (headL f ++ sumL 0 (headL f)) ++ (e ++ rest)) = ⟨0, (preL f).length + 10, headL f ++ sumL 0 (headL f)⟩ := by
      unfold rdE
      rw [hS, hpl]
      exact end_back _ e rest _ he
    refine ⟨by rw [hEe], by rw [hEe], ?_⟩
    unfold rdF
    rw [hA, hB, hD]
    simp only [Int.toNat_of_nonneg e1, Int.toNat_of_nonneg e4]
  · have hpl : preL f = putF (headL f) ++ fastL (headL f) (putF (headL f)) f.dt.length := by unfold preL; rw [hfa]; rfl
    have hb : preL f ++ (e ++ rest) = putF (headL f) ++ (fastL (headL f) (putF (headL f)) f.dt.length ++ (e ++ rest)) := by rw [hpl, List.append_assoc]
    have hrow : rowB (headL f) = true := headL_row f
    have hb0 := hb
    rw [hb]
    generalize hrr : fastL (headL f) (putF (headL f)) f.dt.length ++ (e ++ rest) = rr at *
    have hA : rdA (putF (headL f) ++ rr) = ⟨stP ([48] ++ nameL f), f.id.toNat, f.lo, f.re⟩ :=
      name_back f _ _ (midL f ++ (bitsHead (codeN f) 4 4 ++ ofL f.dt)) hE hh hrow
    have hB : rdB (putF (headL f) ++ rr) = (stP ([48] ++ nameL f ++ midL f), f.fa) := by
      unfold rdB
      rw [hA]
      exact form_back f _ _ _ (bitsHead (codeN f) 4 4 ++ ofL f.dt) hE (by rw [hh]) hrow
    have hD : rdD (putF (headL f) ++ rr) = ⟨stP (headL f), f.sz.toNat, f.dt⟩ := by
      unfold rdD
      rw [hA, hB, ← hp]
      exact data_back f _ _ _ [] hE (by simp only [List.append_assoc, List.append_nil]) hrow
    have htk : (putF (headL f) ++ rr).take (putF (headL f)).length = putF (headL f) := List.take_left
    have hnx : nextP (putF (headL f) ++ rr) (stP (headL f)) (fastL (headL f) (putF (headL f)) f.dt.length).length = (fastL (headL f) (putF (headL f)) f.dt.length, ⟨0, (preL f).length, headL f⟩) := by
      unfold nextP stP
      simp only
      rw [if_pos trivial, if_neg (by rw [← hrr]; simp), List.drop_left, ← hrr, List.take_left, hpl, List.length_append]
    have hS : rdS (putF (headL f) ++ rr) = ⟨0, (preL f).length, headL f⟩ := by
      unfold rdS
      rw [hB, hD, hfa]
      simp only [if_true]
      unfold fixedP
      rw [if_pos (show (stP (headL f)).fl = 0 from rfl), show (stP (headL f)).u = (putF (headL f)).length from rfl, show (stP (headL f)).o = headL f from rfl, htk, hnx]
      simp only
      rw [if_pos, if_pos trivial]
      show _ = fixL (unfixL (fixL _ _) 0) _
      rw [unfix_fixL]
      rfl
    have hEe : rdE (putF (headL f) ++ rr) = ⟨0, (preL f).length + 10, headL f⟩ := by
      unfold rdE
      rw [hS, ← hb0]
      exact end_back _ e rest _ he
    refine ⟨by rw [hEe], by rw [hEe], ?_⟩
    unfold rdF
    rw [hA, hB, hD]
    simp only [Int.toNat_of_nonneg e1, Int.toNat_of_nonneg e4]
end Bw
end Go.Proofs.YtdhmjbnpdmneiadDoor

/- No frame's bits begin with another one's, so of several frames' bits none does; plain facts on lists; of no program. -/
namespace Go.Proofs.YtdhmjbnpdmneiadDoor
namespace Bw
open Bm Cm
theorem bits_begins (f g : Fr) (hf : frE f = 0) (hg : frE g = 0) (h : bitsL f <+: bitsL g) : f = g := by
  obtain ⟨rest, hr⟩ := h
  have h1 := (read_back g onesL [] hg (.inl rfl)).2.2
  have h2 := (read_back f onesL rest hf (.inl rfl)).2.2
  rw [List.append_nil, ← bitsL_pre, ← hr, bitsL_pre, List.append_assoc] at h1
  rw [h2] at h1
  exact h1
theorem rows_apart (fs : List Fr) (h : ∀ f ∈ fs, frE f = 0) : Apart (fs.map bitsL) := by
  intro a ha b hb hab
  obtain ⟨f, hf, rfl⟩ := List.mem_map.1 ha
  obtain ⟨g, hg, rfl⟩ := List.mem_map.1 hb
  rw [bits_begins f g (h f hf) (h g hg) hab]
end Bw
end Go.Proofs.YtdhmjbnpdmneiadDoor

/- Names of frames, one against the other: plain facts on lists; of no program. -/
namespace Go.Proofs.YtdhmjbnpdmneiadDoor
namespace Bw
open Bm Cm

theorem less_val : ∀ (a b : List UInt8), a.length = b.length → rowB a = true → rowB b = true → Op.bytesLess a b = decide (val a < val b)
  | [], [], _, _, _ => rfl
  | [], _ :: _, h, _, _ => by simp at h
  | _ :: _, [], h, _, _ => by simp at h
  | c :: a, d :: b, h, ha, hb => by
    have hl : a.length = b.length := by simpa using h
    have ha' : bit c = true ∧ rowB a = true := by simpa [rowB] using ha
    have hb' : bit d = true ∧ rowB b = true := by simpa [rowB] using hb
    have ih := less_val a b hl ha'.2 hb'.2
    have va := val_lt a ha'.2
    have vb := val_lt b hb'.2
    rw [hl] at va
    rw [val_cons, val_cons, hl]
    generalize 2 ^ b.length = P at *
    have hc : c = 48 ∨ c = 49 := by have := ha'.1; simp [bit] at this; exact this
    have hd : d = 48 ∨ d = 49 := by have := hb'.1; simp [bit] at this; exact this
    have d48 : dig 48 = 0 := rfl
    have d49 : dig 49 = 1 := rfl
    rcases hc with rfl | rfl <;> rcases hd with rfl | rfl
    · rw [d48]; simp [Op.bytesLess, ih]
    · rw [d48, d49]; simp [Op.bytesLess]; omega
    · rw [d48, d49]; simp [Op.bytesLess]; omega
    · rw [d49]; simp [Op.bytesLess, ih]
theorem val_inj {a b : List UInt8} (hl : a.length = b.length) (ha : rowB a = true) (hb : rowB b = true) (h : val a = val b) : a = b := by
  have e1 := bits_val a ha
  have e2 := bits_val b hb
  rw [h, hl] at e1
  exact e1.symm.trans e2
def reN (r : Bool) : Nat := if r then 1 else 0
theorem name_valS (f : Fr) (hE : frE f = 0) (hlo : f.lo = false) : val (nameL f) = f.id.toNat * 4 + reN f.re * 2 := by
  obtain ⟨e1, e2, -⟩ := frE_ok hE
  rw [hlo] at e2
  have hid : f.id.toNat < 2 ^ 11 := by simp [topI] at e2; omega
  unfold nameL
  rw [hlo]
  simp only [Bool.false_eq_true, if_false]
  rw [val_append, val_row _ _ hid]
  cases f.re <;> rfl
theorem name_valL (f : Fr) (hE : frE f = 0) (hlo : f.lo = true) : ∃ x y, f.id.toNat = x * 262144 + y ∧ y < 262144 ∧ val (nameL f) = ((x * 4 + 3) * 262144 + y) * 2 + reN f.re := by
  obtain ⟨e1, e2, -⟩ := frE_ok hE
  rw [hlo] at e2
  have hid : f.id.toNat < 2 ^ 29 := by simp [topI] at e2; omega
  have hd : ((bitsHead f.id.toNat 29 29).drop 11).length = 18 := by simp [bitsHead_length]
  have hv := val_row f.id.toNat 29 hid
  rw [← List.take_append_drop 11 (bitsHead f.id.toNat 29 29), val_append, hd] at hv
  have hy := val_lt _ (rowB_drop (bitsHead_row f.id.toNat 29 29) 11)
  rw [hd] at hy
  refine ⟨val ((bitsHead f.id.toNat 29 29).take 11), val ((bitsHead f.id.toNat 29 29).drop 11), hv.symm, hy, ?_⟩
  unfold nameL
  rw [hlo]
  simp only [if_true]
  rw [val_append, val_append, val_append, hd]
  have v2 : val [49, 49] = 3 := rfl
  have l2 : ([49, 49] : List UInt8).length = 2 := rfl
  have l1 : ([bitB f.re] : List UInt8).length = 1 := rfl
  rw [v2, l2, l1]
  have vr : val [bitB f.re] = reN f.re := by cases f.re <;> rfl
  rw [vr]
theorem names_same (f g : Fr) (hf : frE f = 0) (hg : frE g = 0) (hlo : f.lo = g.lo) : decide (nameL f = nameL g) = (decide (f.id = g.id) && decide (f.re = g.re)) := by
  have hl : (nameL f).length = (nameL g).length := by rw [nameL_len, nameL_len, hlo]
  obtain ⟨e1, -⟩ := frE_ok hf
  obtain ⟨e2, -⟩ := frE_ok hg
  rw [Bool.eq_iff_iff, decide_eq_true_iff, Bool.and_eq_true, decide_eq_true_iff, decide_eq_true_iff]
  have hre : ∀ a b : Bool, reN a = reN b ↔ a = b := by decide
  constructor
  · intro h
    have hv := congrArg val h
    cases hfl : f.lo
    · rw [name_valS f hf hfl, name_valS g hg (by rw [← hlo]; exact hfl)] at hv
      have r1 : reN f.re ≤ 1 := by unfold reN; split <;> omega
      have r2 : reN g.re ≤ 1 := by unfold reN; split <;> omega
      exact ⟨by omega, (hre _ _).1 (by omega)⟩
    · obtain ⟨x, y, h1, h2, h3⟩ := name_valL f hf hfl
      obtain ⟨x', y', h1', h2', h3'⟩ := name_valL g hg (by rw [← hlo]; exact hfl)
      rw [h3, h3'] at hv
      have r1 : reN f.re ≤ 1 := by unfold reN; split <;> omega
      have r2 : reN g.re ≤ 1 := by unfold reN; split <;> omega
      exact ⟨by omega, (hre _ _).1 (by omega)⟩
  · rintro ⟨h1, h2⟩
    unfold nameL
    rw [hlo, h1, h2]
theorem names_less (f g : Fr) (hf : frE f = 0) (hg : frE g = 0) (hlo : f.lo = g.lo) (h : g.id < f.id) : Op.bytesLess (nameL f) (nameL g) = false ∧ nameL f ≠ nameL g := by
  have hl : (nameL f).length = (nameL g).length := by rw [nameL_len, nameL_len, hlo]
  obtain ⟨e1, -⟩ := frE_ok hf
  obtain ⟨e2, -⟩ := frE_ok hg
  have hv : val (nameL g) < val (nameL f) := by
    have r1 : reN f.re ≤ 1 := by unfold reN; split <;> omega
    have r2 : reN g.re ≤ 1 := by unfold reN; split <;> omega
    cases hfl : f.lo
    · rw [name_valS f hf hfl, name_valS g hg (by rw [← hlo]; exact hfl)]
      omega
    · obtain ⟨x, y, h1, h2, h3⟩ := name_valL f hf hfl
      obtain ⟨x', y', h1', h2', h3'⟩ := name_valL g hg (by rw [← hlo]; exact hfl)
      rw [h3, h3']
      omega
  refine ⟨?_, fun e => by rw [e] at hv; omega⟩
  rw [less_val _ _ hl (nameL_row f) (nameL_row g)]
  simp; omega
theorem name_at (f : Fr) : (nameL f).getD 12 0 = if f.lo then 49 else 48 := by
  unfold nameL
  cases f.lo
  · simp only [Bool.false_eq_true, if_false]
    rw [List.getD, List.getElem?_append_right (by rw [bitsHead_length]; omega), bitsHead_length]
    rfl
  · simp only [if_true]
    rw [List.getD, List.append_assoc, List.append_assoc, List.getElem?_append_right (by simp [bitsHead_length]), List.length_take, bitsHead_length]
    rfl
theorem names_other (f g : Fr) (hlo : f.lo ≠ g.lo) : nameL f ≠ nameL g ∧ Lib.hasPrefix (nameL f) (nameL g) = false := by
  have hne : (nameL f).getD 12 0 ≠ (nameL g).getD 12 0 := by
    rw [name_at, name_at]
    cases hf : f.lo <;> cases hg : g.lo
    · exact absurd (by rw [hf, hg]) hlo
    · decide
    · decide
    · exact absurd (by rw [hf, hg]) hlo
  refine ⟨fun e => hne (by rw [e]), ?_⟩
  unfold Lib.hasPrefix
  rw [Bool.eq_false_iff]
  intro h
  rw [List.isPrefixOf_iff_prefix] at h
  obtain ⟨t, ht⟩ := h
  apply hne
  rw [← ht]
  have hl := nameL_len g
  rw [List.getD, List.getD, List.getElem?_append_left (by rw [hl]; split <;> omega)]
end Bw
end Go.Proofs.YtdhmjbnpdmneiadDoor

/- Whose name is ahead, is ahead with all its bits: plain facts on lists; of no program. -/
namespace Go.Proofs.YtdhmjbnpdmneiadDoor
namespace Bw
open Bm Cm
theorem putF_begin (p : List UInt8) (c : UInt8) (t : List UInt8) : ∃ u, putF (p ++ c :: t) = putF p ++ c :: u := by
  obtain ⟨t', h⟩ := putF_append (p ++ [c]) t
  have e : p ++ c :: t = p ++ [c] ++ t := by simp
  rw [e, h, putF_snoc]
  unfold putS
  split
  · exact ⟨[otb c] ++ t', by simp⟩
  · exact ⟨t', by simp⟩
theorem bits_begin (f : Fr) : ∃ r s, bitsL f = putF ([48] ++ nameL f ++ r) ++ s := by
  unfold bitsL headL
  split
  · exact ⟨midL f ++ (bitsHead (codeN f) 4 4 ++ ofL f.dt), fastL (headL f) (putF (headL f)) f.dt.length ++ onesL, by unfold headL; simp [List.append_assoc]⟩
  · exact ⟨midL f ++ (bitsHead (codeN f) 4 4 ++ (ofL f.dt ++ sumL 0 (headL f))), onesL, by unfold headL; simp [List.append_assoc]⟩
theorem bits_at (f : Fr) (k : Nat) (hk : k < (nameL f).length) : ∃ u, bitsL f = putF ([48] ++ (nameL f).take k) ++ (nameL f).getD k 0 :: u := by
  obtain ⟨r, s, h⟩ := bits_begin f
  have e : nameL f = (nameL f).take k ++ (nameL f).getD k 0 :: (nameL f).drop (k + 1) := by
    have := List.take_append_drop k (nameL f)
    rw [List.drop_eq_getElem_cons hk] at this
    rw [List.getD, List.getElem?_eq_getElem hk, Option.getD_some]
    exact this.symm
  obtain ⟨u, hu⟩ := putF_begin ([48] ++ (nameL f).take k) ((nameL f).getD k 0) ((nameL f).drop (k + 1) ++ r)
  refine ⟨u ++ s, ?_⟩
  rw [h]
  have e2 : [48] ++ nameL f ++ r = [48] ++ (nameL f).take k ++ (nameL f).getD k 0 :: ((nameL f).drop (k + 1) ++ r) := by
    conv => lhs; rw [e]
    simp [List.append_assoc]
  rw [e2, hu]; simp
theorem name_ahead (f g : Fr) (h : Op.bytesLess (nameL f) (nameL g) = true) : Op.bytesLess (bitsL f) (bitsL g) = true := by
  rcases (less_cases _ _).1 h with ⟨h1, h2⟩ | ⟨k, h1, h2, h3, h4⟩
  · exfalso
    have l1 := nameL_len f
    have l2 := nameL_len g
    by_cases hlo : f.lo = g.lo
    · rw [hlo] at l1
      exact h2 (h1.eq_of_length (l1.trans l2.symm))
    · have a1 := name_at f
      have a2 := name_at g
      have h12 : 12 < (nameL f).length := by rw [l1]; split <;> omega
      obtain ⟨t, ht⟩ := h1
      have : (nameL g).getD 12 0 = (nameL f).getD 12 0 := by
        rw [← ht]; simp [List.getD, List.getElem?_append_left h12]
      rw [a1, a2] at this
      cases hf : f.lo <;> cases hg : g.lo <;> simp [hf, hg] at this hlo
  · obtain ⟨u, hu⟩ := bits_at f k h1
    obtain ⟨v, hv⟩ := bits_at g k h2
    rw [h3] at hu
    refine (less_cases _ _).2 (.inr ⟨(putF ([48] ++ (nameL g).take k)).length, ?_, ?_, ?_, ?_⟩)
    · rw [hu]; simp
    · rw [hv]; simp
    · rw [hu, hv, List.take_left, List.take_left]
    · rw [hu, hv]
      simp only [List.getD, List.getElem?_append_right (Nat.le_refl _), Nat.sub_self, List.getElem?_cons_zero, Option.getD_some]
      simpa [List.getD] using h4
end Bw
end Go.Proofs.YtdhmjbnpdmneiadDoor

/- Whose name is ahead of all others' goes through: plain facts on lists; of no program. -/
namespace Go.Proofs.YtdhmjbnpdmneiadDoor
namespace Bw
open Bm Cm
theorem minL_mem {l : List (List UInt8)} (h : l ≠ []) : minL l ∈ l := (minL_least l h).1
theorem first_wins (fs : List Fr) (hne : fs ≠ []) (h1 : ¬ 1 < (fs.map nameL).count (minL (fs.map nameL))) :
    onlyE (fs.map bitsL) (minL (fs.map bitsL)) = 0 ∧ idxG (fs.map bitsL) (minL (fs.map bitsL)) = idxG (fs.map nameL) (minL (fs.map nameL)) := by
  have hnn : fs.map nameL ≠ [] := by simpa using hne
  have hnb : fs.map bitsL ≠ [] := by simpa using hne
  have hL := minL_least _ hnn
  have hB := minL_least _ hnb
  obtain ⟨f, hf, hfm⟩ := List.mem_map.1 hL.1
  obtain ⟨a, b, hab⟩ := List.append_of_mem hf
  have hc : (a.map nameL).count (nameL f) = 0 ∧ (b.map nameL).count (nameL f) = 0 := by
    rw [← hfm, hab, List.map_append, List.map_cons, List.count_append, List.count_cons_self] at h1
    omega
  have ha : nameL f ∉ a.map nameL := List.count_eq_zero.1 hc.1
  have hb : nameL f ∉ b.map nameL := List.count_eq_zero.1 hc.2
  have ahead : ∀ g, g ∈ a ∨ g ∈ b → Op.bytesLess (bitsL f) (bitsL g) = true := by
    intro g hg
    have hgm : nameL g ∈ fs.map nameL := by
      refine List.mem_map.2 ⟨g, ?_, rfl⟩
      rw [hab]
      rcases hg with hg | hg
      · exact List.mem_append_left _ hg
      · exact List.mem_append_right _ (List.mem_cons_of_mem _ hg)
    have hne' : nameL g ≠ nameL f := by
      intro e
      rcases hg with hg | hg
      · exact ha (by rw [← e]; exact List.mem_map.2 ⟨g, hg, rfl⟩)
      · exact hb (by rw [← e]; exact List.mem_map.2 ⟨g, hg, rfl⟩)
    have h2 := hL.2 _ hgm
    rw [← hfm] at h2
    refine name_ahead f g ?_
    rcases Bool.eq_false_or_eq_true (Op.bytesLess (nameL f) (nameL g)) with h3 | h3
    · exact h3
    · exact absurd (less_tot _ _ h2 h3) hne'
  have hleast : Least (fs.map bitsL) (bitsL f) := by
    refine ⟨List.mem_map.2 ⟨f, hf, rfl⟩, fun r hr => ?_⟩
    obtain ⟨g, hg, rfl⟩ := List.mem_map.1 hr
    rw [hab] at hg
    rcases List.mem_append.1 hg with hg | hg
    · exact less_not (ahead g (.inl hg))
    · rcases List.mem_cons.1 hg with rfl | hg
      · exact less_irr _
      · exact less_not (ahead g (.inr hg))
  have hm : minL (fs.map bitsL) = bitsL f := least_one_only hB hleast
  have ha' : bitsL f ∉ a.map bitsL := by
    intro hx
    obtain ⟨g, hg, e⟩ := List.mem_map.1 hx
    exact less_ne (ahead g (.inl hg)) e.symm
  have hb' : bitsL f ∉ b.map bitsL := by
    intro hx
    obtain ⟨g, hg, e⟩ := List.mem_map.1 hx
    exact less_ne (ahead g (.inr hg)) e.symm
  rw [onlyE_rows hB.1, hm, ← hfm, hab, List.map_append, List.map_cons, List.map_append, List.map_cons]
  refine ⟨?_, ?_⟩
  · rw [List.count_append, List.count_cons_self, List.count_eq_zero.2 ha', List.count_eq_zero.2 hb', if_neg (by omega)]
  · rw [idxG_at _ _ _ ha', idxG_at _ _ _ ha, List.length_map, List.length_map]
theorem minL_rev (l : List (List UInt8)) (h : l ≠ []) : minL l.reverse = minL l := by
  have h1 := minL_least l h
  have h2 := minL_least l.reverse (by simpa using h)
  refine least_one_only (l := l) ⟨?_, fun r hr => h2.2 r (by simpa using hr)⟩ h1
  simpa using h2.1
end Bw
end Go.Proofs.YtdhmjbnpdmneiadDoor

/- What the row's step tells a walk of a slice of integers that came in. -/
namespace Go.Proofs.YtdhmjbnpdmneiadDoor
open Go.ChangeShapes Go.WideShapes Go.ChangeAt Go.RowKit
namespace Bw
def IsRow (k : IntKind) (w : World) (a : Option Addr) (len cap : Nat) (zs : List Int) : Prop :=
  (a = none ∧ len = 0 ∧ cap = 0 ∧ zs = []) ∨
  ∃ x, a = some x ∧ len ≤ cap ∧ cap ≤ maxLen ∧ zs.length = cap ∧ (∀ i, i < zs.length → w.cell? (x.add i) = some (.int k (zs.getD i 0))) ∧ ∀ n ∈ zs, (Lit.int k n).wf = true
end Bw
end Go.Proofs.YtdhmjbnpdmneiadDoor

/- What the row's step tells a walk of a slice of integers that came in, and what that says of bytes. -/
namespace Go.Proofs.YtdhmjbnpdmneiadDoor
open Go.ChangeShapes Go.WideShapes Go.ChangeAt Go.RowKit
namespace Bw
theorem isBytes_of_row {w : World} {a : Option Addr} {len cap : Nat} {zs : List Int} (h : IsRow .u8 w a len cap zs) : ∃ l, IsBytes w a len cap l := by
  rcases h with ⟨rfl, rfl, rfl, rfl⟩ | ⟨x, rfl, hl, hm, hz, hc, hw⟩
  · exact ⟨[], rfl, Nat.le_refl _, Nat.zero_le _, (fun _ => rfl), (fun x hx => by cases hx)⟩
  · refine ⟨(zs.take len).map fun z => UInt8.ofNat z.toNat, by simp; omega, hl, hm, (fun h => by cases h), ?_⟩
    intro y hy i hi
    cases hy
    rw [hc i (by omega)]
    have hi' : i < zs.length := by omega
    have hb : 0 ≤ zs[i] ∧ zs[i] ≤ 255 := by
      have := hw zs[i] (List.getElem_mem _)
      simpa [Lit.wf, IntKind.min, IntKind.max, IntKind.signed, IntKind.bits] using this
    have e1 : zs.getD i 0 = zs[i] := by simp [List.getD, hi']
    have e2 : ((zs.take len).map fun z => UInt8.ofNat z.toNat).getD i 0 = UInt8.ofNat zs[i].toNat := by
      simp [List.getD, hi, hi']
    rw [e1, e2]
    have e3 : (UInt8.ofNat zs[i].toNat).toNat = zs[i].toNat := by
      rw [UInt8.toNat_ofNat']; omega
    rw [e3]
    congr 2
    omega
end Bw
end Go.Proofs.YtdhmjbnpdmneiadDoor

/- A frame that came in as an argument: its six cells, and its bytes. -/
namespace Go.Proofs.YtdhmjbnpdmneiadDoor
open Go.ChangeShapes Go.WideShapes Go.ChangeAt Go.RowKit
namespace Bw

theorem six_cells {l : List Value} (h : l.length = 6) : ∃ c0 c1 c2 c3 c4 c5, l = [c0, c1, c2, c3, c4, c5] := by
  match l, h with
  | [c0, c1, c2, c3, c4, c5], _ => exact ⟨c0, c1, c2, c3, c4, c5, rfl⟩
theorem frame_c : Tryd.prog.cellsOf 30 = 6 := by kernel_rfl
theorem int_c1 : Tryd.prog.cellsOf 3 = 1 := by kernel_rfl
theorem bool_c1 : Tryd.prog.cellsOf 4 = 1 := by kernel_rfl
theorem row_c1 : Tryd.prog.cellsOf 28 = 1 := by kernel_rfl
theorem byte_c1 : Tryd.prog.cellsOf 5 = 1 := by kernel_rfl
/-- the value of a frame -/
def frameV (id : Int) (lo fa re : Bool) (sz : Int) (a : Option Addr) (len cap : Nat) : Value := .agg #[.int .i64 id, .bool lo, .bool fa, .bool re, .int .i64 sz, .slice a len cap]
set_option maxRecDepth 100000 in
theorem open_frame {H : Type} {enc : TypeId × Value → H} {W : World} {base : Nat} {v : Value} {fuel : Nat} {x : DataW H × List MemPlace} (hv : Value.okWide Tryd.prog W .any base 30 v)
    (hf : DataW.trod enc Tryd.prog W 0 (fun _ => true) true fuel 30 v.cells.toList = some x) :
    ∃ id lo fa re sz a len cap zs, v = frameV id lo fa re sz a len cap ∧ (Lit.int .i64 id).wf = true ∧ (Lit.int .i64 sz).wf = true ∧ IsRow .u8 W a len cap zs := by
  obtain ⟨cs, rfl, hcs⟩ := okWide_struct Tryd.underlying30 hv
  rw [frame_c] at hcs
  obtain ⟨xs, n, _, rfl, _, hlen, hF⟩ := DataW.trod_struct Tryd.underlying30 hf
  obtain ⟨c0, c1, c2, c3, c4, c5, hc⟩ := six_cells (l := cs.toList) (by simpa using hcs)
  have hcv : (Value.agg cs).cells.toList = [c0, c1, c2, c3, c4, c5] := hc
  rw [hcv] at hF
  have h6 : xs.length = 6 := hlen
  have g : ∀ i, i < 6 → ∃ y, xs[i]? = some y := fun i hi => ⟨xs[i]'(by omega), List.getElem?_eq_getElem (by omega)⟩
  obtain ⟨y0, e0⟩ := g 0 (by omega)
  obtain ⟨y1, e1⟩ := g 1 (by omega)
  obtain ⟨y2, e2⟩ := g 2 (by omega)
  obtain ⟨y3, e3⟩ := g 3 (by omega)
  obtain ⟨y4, e4⟩ := g 4 (by omega)
  obtain ⟨y5, e5⟩ := g 5 (by omega)
  have f0 := hF 0 _ rfl
  have f1 := hF 1 _ rfl
  have f2 := hF 2 _ rfl
  have f3 := hF 3 _ rfl
  have f4 := hF 4 _ rfl
  have f5 := hF 5 _ rfl
  rw [e0] at f0
  rw [e1] at f1
  rw [e2] at f2
  rw [e3] at f3
  rw [e4] at f4
  rw [e5] at f5
  obtain ⟨id, q0, _, w0⟩ := DataW.trod_int Tryd.underlying3 f0
  obtain ⟨lo, q1, _⟩ := DataW.trod_bool Tryd.underlying4 f1
  obtain ⟨fa, q2, _⟩ := DataW.trod_bool Tryd.underlying4 f2
  obtain ⟨re, q3, _⟩ := DataW.trod_bool Tryd.underlying4 f3
  obtain ⟨sz, q4, _, w4⟩ := DataW.trod_int Tryd.underlying3 f4
  have p0 : ([c0, c1, c2, c3, c4, c5].drop 0).take (Tryd.prog.cellsOf 3) = [.int .i64 id] := q0
  have p1 : ([c0, c1, c2, c3, c4, c5].drop 1).take (Tryd.prog.cellsOf 4) = [.bool lo] := q1
  have p2 : ([c0, c1, c2, c3, c4, c5].drop 2).take (Tryd.prog.cellsOf 4) = [.bool fa] := q2
  have p3 : ([c0, c1, c2, c3, c4, c5].drop 3).take (Tryd.prog.cellsOf 4) = [.bool re] := q3
  have p4 : ([c0, c1, c2, c3, c4, c5].drop 4).take (Tryd.prog.cellsOf 3) = [.int .i64 sz] := q4
  rw [int_c1] at p0 p4
  rw [bool_c1] at p1 p2 p3
  have q0 : c0 = .int .i64 id := by simpa using p0
  have q1 : c1 = .bool lo := by simpa using p1
  have q2 : c2 = .bool fa := by simpa using p2
  have q3 : c3 = .bool re := by simpa using p3
  have q4 : c4 = .int .i64 sz := by simpa using p4
  have hrow : ∃ a len cap zs, c5 = .slice a len cap ∧ IsRow .u8 W a len cap zs := by
    have f5 : DataW.trod enc Tryd.prog W 0 (fun _ => true) true n 28 (([c0, c1, c2, c3, c4, c5].drop 5).take (Tryd.prog.cellsOf 28)) = some y5 := f5
    rw [row_c1] at f5
    have e5 : ([c0, c1, c2, c3, c4, c5].drop 5).take 1 = [c5] := rfl
    rw [e5] at f5
    rcases open_ints Tryd.underlying28 Tryd.underlying5 byte_c1 f5 with ⟨q5, _⟩ | ⟨a, len, cap, zs, q5, _, hl, hm, hz, _, hcell, hw⟩
    · simp only [List.cons.injEq, and_true] at q5
      exact ⟨none, 0, 0, [], q5, .inl ⟨rfl, rfl, rfl, rfl⟩⟩
    · simp only [List.cons.injEq, and_true] at q5
      exact ⟨some a, len, cap, zs, q5, .inr ⟨a, rfl, hl, hm, by simpa using hz, hcell, hw⟩⟩
  obtain ⟨a, len, cap, zs, q5, hr⟩ := hrow
  refine ⟨id, lo, fa, re, sz, a, len, cap, zs, ?_, w0, w4, hr⟩
  unfold frameV
  rw [← q0, ← q1, ← q2, ← q3, ← q4, ← q5]
  congr 1
  apply Array.toList_inj.1
  rw [hc]
end Bw
end Go.Proofs.YtdhmjbnpdmneiadDoor
