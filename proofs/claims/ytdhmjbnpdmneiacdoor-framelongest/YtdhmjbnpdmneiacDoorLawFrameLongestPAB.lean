/- Joined out of our texts: StuffAdd, StuffPut, StuffTake, FrRead1, FrRead2, FrRead3. -/
import Derived.Test.YtdhmjbnpdmneiacDoorBase8
import Derived.Test.YtdhmjbnpdmneiacDoorLawFrameLongestRAD
import Derived.OneCell
import Derived.Test.YtdhmjbnpdmneiacDoorLawFrameLongestRAG
import Derived.Test.YtdhmjbnpdmneiacDoorLawFrameLongestPAA
import Derived.Deep.RegionWith
import Derived.BigQuiet
import Derived.Lib.QuietBelow
/- What the small parts of package stuff answer: the other bit, whether a length is one, and the run that takes a bit more. -/
namespace Go.Proofs.YtdhmjbnpdmneiacDoor
open Go.ChangeShapes Go.WideShapes Go.ChangeAt Go.RowKit
namespace Bw
open Bm

/-- but for one block all is as it was -/
structure AtOnly (g : Nat) (w w' : World) : Prop where
  os : w'.os = w.os
  tape : w'.tape = w.tape
  output : w'.output = w.output
  size : w'.heap.size = w.heap.size
  block : ∀ k, k ≠ g → w'.heap[k]? = w.heap[k]?
theorem AtOnly.setCell (w : World) (a : Addr) (u : Value) : AtOnly a.block w (w.setCell a u) :=
  ⟨rfl, rfl, rfl, by simp [World.setCell], fun _ hk => Below.heap_setCell _ _ _ _ hk⟩
theorem AtOnly.trans {g : Nat} {a b c : World} (h : AtOnly g a b) (k : AtOnly g b c) : AtOnly g a c :=
  ⟨k.os.trans h.os, k.tape.trans h.tape, k.output.trans h.output, k.size.trans h.size, fun i hi => (k.block i hi).trans (h.block i hi)⟩
theorem AtOnly.below {g B : Nat} {w w' : World} (h : AtOnly g w w') (hB : B ≤ g) : Below B w w' :=
  ⟨h.os, h.tape, h.output, by rw [h.size]; exact Nat.le_refl _, fun k hk => h.block k (by omega)⟩
theorem AtOnly.owns {g : Nat} {w w' : World} (h : AtOnly g w w') {base : Nat} {e : TypeId} {size : Nat} {v : Value} {n : Nat} {xs : List Value} (ho : w.ownsRow base e size v n xs) (hb : g < base) : w'.ownsRow base e size v n xs := by
  obtain ⟨h1, h2⟩ := ho
  refine ⟨h1, ?_⟩
  rcases h2 with h2 | ⟨k, cap, cur, hv, hk, hh, r⟩
  · exact Or.inl h2
  · exact Or.inr ⟨k, cap, cur, hv, hk, by rw [h.block k (by omega)]; exact hh, r⟩

def isRun (w : World) (g : Nat) (p : UInt8 × Nat) : Prop := w.heap[g]? = some (.cells #[.int .u8 p.1.toNat, .int .i64 p.2] 79 (0, 0))
theorem two_set0 {w : World} {b : Nat} {v x u : Value} {t : TypeId} (h : w.heap[b]? = some (.cells #[v, x] t (0, 0))) : (w.setCell ⟨b, 0, none⟩ u).heap[b]? = some (.cells #[u, x] t (0, 0)) := by
  have hlt := lt_of_block h
  have h' : w.heap[b] = .cells #[v, x] t (0, 0) := by simpa [Array.getElem?_eq_getElem hlt] using h
  show (w.heap.modify b _)[b]? = _
  rw [Array.getElem?_eq_getElem (by simpa using hlt), Array.getElem_modify_self, h']
  rfl
theorem two_set1 {w : World} {b : Nat} {v x u : Value} {t : TypeId} (h : w.heap[b]? = some (.cells #[v, x] t (0, 0))) : (w.setCell ⟨b, 1, none⟩ u).heap[b]? = some (.cells #[v, u] t (0, 0)) := by
  have hlt := lt_of_block h
  have h' : w.heap[b] = .cells #[v, x] t (0, 0) := by simpa [Array.getElem?_eq_getElem hlt] using h
  show (w.heap.modify b _)[b]? = _
  rw [Array.getElem?_eq_getElem (by simpa using hlt), Array.getElem_modify_self, h']
  rfl

set_option maxHeartbeats 1000000 in
theorem otherS_any (c : UInt8) (w : World) (h : bit c = true) :
    Calls Tryd.prog 61 #[.int .u8 c.toNat] w fun e w' => e = .returned (.int .u8 (otb c).toNat) ∧ w' = w := by
  rcases (bit_iff c).1 h with h | h
  · have : c = 48 := UInt8.toNat_inj.1 (by show c.toNat = 48; omega)
    subst this
    go_enter Tryd.func61, Tryd.ntmps61
    go_wp2; go_ret; exact ⟨rfl, rfl⟩
  · have : c = 49 := UInt8.toNat_inj.1 (by show c.toNat = 49; omega)
    subst this
    go_enter Tryd.func61, Tryd.ntmps61
    go_wp2; go_ret; exact ⟨rfl, rfl⟩

set_option maxHeartbeats 2000000 in
theorem add_same (g : Nat) (c : UInt8) (n : Nat) (w : World) (hn : n ≤ 1000) (hg : isRun w g (c, n)) :
    Calls Tryd.prog 60 #[.pointer (some ⟨g, 0, none⟩), .int .u8 c.toNat] w fun e w' => e = .returned (.bool ((n : Int) + 1 == 5)) ∧ isRun w' g (c, n + 1) ∧ AtOnly g w w' := by
  unfold isRun at *
  have c0 := cell_of_row w g 0 _ _ _ hg
  have c1 := cell_of_row w g 1 _ _ _ hg
  have f0 : w.frozen? ⟨g, 0, none⟩ = false := by simp [World.frozen?, hg]
  have f1 : w.frozen? ⟨g, 1, none⟩ = false := by simp [World.frozen?, hg]
  simp at c0 c1
  have HG := Hid.mk hg
  clear hg
  go_enter Tryd.func60, Tryd.ntmps60
  go_wp2
  go_ret
  exact ⟨rfl, two_set1 HG.out, AtOnly.setCell w ⟨g, 1, none⟩ _⟩

set_option maxHeartbeats 2000000 in
theorem add_other (g : Nat) (d c : UInt8) (n : Nat) (w : World) (hne : c ≠ d) (hg : isRun w g (d, n)) :
    Calls Tryd.prog 60 #[.pointer (some ⟨g, 0, none⟩), .int .u8 c.toNat] w fun e w' => e = .returned (.bool false) ∧ isRun w' g (c, 1) ∧ AtOnly g w w' := by
  unfold isRun at *
  have c0 := cell_of_row w g 0 _ _ _ hg
  have c1 := cell_of_row w g 1 _ _ _ hg
  have f0 : w.frozen? ⟨g, 0, none⟩ = false := by simp [World.frozen?, hg]
  have f1 : w.frozen? ⟨g, 1, none⟩ = false := by simp [World.frozen?, hg]
  have hne' : ((c.toNat : Int) == (d.toNat : Int)) = false := by
    have : c.toNat ≠ d.toNat := fun h => hne (UInt8.toNat_inj.1 h)
    rw [beq_eq_false_iff_ne]; omega
  have c2 := cell_of_row _ g 1 _ _ _ (two_set1 (u := .int .i64 1) (two_set1 (u := .int .i64 0) (two_set0 (u := .int .u8 c.toNat) hg)))
  simp only [List.getElem?_toArray, List.getElem?_cons_succ, List.getElem?_cons_zero] at c2
  simp at c0 c1
  have HG := Hid.mk hg
  clear hg hne
  go_enter Tryd.func60, Tryd.ntmps60
  go_wp2
  go_ret
  exact ⟨rfl, two_set1 (two_set1 (two_set0 HG.out)), ((AtOnly.setCell w ⟨g, 0, none⟩ _).trans (AtOnly.setCell _ ⟨g, 1, none⟩ _)).trans (AtOnly.setCell _ ⟨g, 1, none⟩ _)⟩

theorem add_any (g : Nat) (p : UInt8 × Nat) (c : UInt8) (w : World) (hn : p.2 ≤ 1000) (hg : isRun w g p) :
    Calls Tryd.prog 60 #[.pointer (some ⟨g, 0, none⟩), .int .u8 c.toNat] w fun e w' => e = .returned (.bool ((addR p c).2 == 5)) ∧ isRun w' g (addR p c) ∧ AtOnly g w w' := by
  by_cases h : c = p.1
  · subst h
    rw [addR_same]
    refine (add_same g p.1 p.2 w hn hg).mono ?_
    rintro e w' ⟨rfl, h1, h2⟩
    refine ⟨?_, h1, h2⟩
    congr 2
    rw [Bool.eq_iff_iff]
    simp only [beq_iff_eq]
    omega
  · rw [addR_other h]
    exact add_other g p.1 c p.2 w h hg

set_option maxHeartbeats 400000 in
theorem isLength_yes (n : Int) (w : World) (h0 : 0 ≤ n) (h1 : n ≤ 1000) :
    Calls Tryd.prog 51 #[.int .i64 n] w fun e w' => e = .returned (.bool true) ∧ w' = w := by
  go_enter Tryd.func51, Tryd.ntmps51
  go_wp2; go_ret; exact ⟨rfl, rfl⟩
set_option maxHeartbeats 400000 in
theorem isLength_no (n : Int) (w : World) (h : n < 0 ∨ 1000 < n) :
    Calls Tryd.prog 51 #[.int .i64 n] w fun e w' => e = .returned (.bool false) ∧ w' = w := by
  by_cases h0 : n < 0
  · clear h
    go_enter Tryd.func51, Tryd.ntmps51
    go_wp2; go_ret; exact ⟨rfl, rfl⟩
  · have h1 : 1000 < n := by omega
    have h2 : 0 ≤ n := by omega
    have h3 : decide (n ≤ 1000) = false := by simpa using h1
    clear h h0
    go_enter Tryd.func51, Tryd.ntmps51
    go_wp2; go_ret; exact ⟨rfl, rfl⟩
end Bw
end Go.Proofs.YtdhmjbnpdmneiacDoor

/- What stuff.Put answers of any text: the row with a bit put in behind each five alike, and else which error. -/
namespace Go.Proofs.YtdhmjbnpdmneiacDoor
open Go.ChangeShapes Go.WideShapes Go.ChangeAt Go.RowKit
namespace Bw
open Bm

set_option maxHeartbeats 1000000 in
theorem put_bad (s : ByteArray) (w : World) (hs : s.size ≤ maxLen) (hc : checkE s.data.toList ≠ 0) :
    Calls Tryd.prog 33 #[.string s] w fun e w' => e = .returned (.tuple #[.string ⟨#[]⟩, .int .i64 (checkE s.data.toList)]) ∧ Below w.heap.size w w' := by
  have HS := Hid.mk hs
  have hc' : (checkE s.data.toList == 0) = false := by simpa using hc
  clear hs
  go_enter Tryd.func33, Tryd.ntmps33
  go_wp2_with fail
  refine (check_any s w HS.out).mono ?_
  rintro e w1 ⟨rfl, hb1⟩
  go_wp2_with fail
  go_ret2
  exact ⟨rfl, hb1⟩

theorem isRun_at {w w' : World} {B g : Nat} {p : UInt8 × Nat} (h : isRun w g p) (hb : Below B w w') (hg : g < B) : isRun w' g p := by
  unfold isRun at *
  rw [hb.block g hg]; exact h

set_option maxHeartbeats 8000000 in
theorem put_ok (s : ByteArray) (w : World) (hc : checkE s.data.toList = 0) :
    Calls Tryd.prog 33 #[.string s] w fun e w' => e = .returned (.tuple #[.string ⟨(putF s.data.toList).toArray⟩, .int .i64 0]) ∧ Below w.heap.size w w' := by
  obtain ⟨i0, hi, hz0, hz1, hz2⟩ := info_parts info_u8
  obtain ⟨h1000, hrow⟩ := small_of_check hc
  have hck := fun W => check_any s W (by unfold maxLen; omega)
  rw [hc] at hck
  have HR := Hid.mk hrow
  clear hc hrow
  go_enter Tryd.func33, Tryd.ntmps33
  go_wp2_with fail
  refine (hck w).mono ?_
  rintro e w1 ⟨rfl, hb1⟩
  clear hck
  have hw1 := hb1.size
  go_wp2_with fail
  go_loopw [5, 15] (fun r i wr => ∃ k : Nat, k ≤ s.size ∧ i = .int .i64 k ∧ wr.ownsRow (w1.heap.size + 1) 5 1 r (putF (s.data.toList.take k)).length (cellsOf (putF (s.data.toList.take k))) ∧ isRun wr w1.heap.size (endR (putF (s.data.toList.take k))) ∧ Below w.heap.size w wr ∧ w1.heap.size + 1 ≤ wr.heap.size) (fun _ i _ => s.size - (intOf i).toNat)
  case atStart => exact ⟨0, Nat.zero_le _, rfl, World.ownsRow_nil _ _ _ _, heap_alloc_new w1 _, hb1.alloc hw1 _, by simp⟩
  case round =>
    obtain ⟨k, hk, rfl, hown, hrun, hbel, hsz⟩ := hrel
    obtain ⟨o, ho⟩ : ∃ o, o = putF (s.data.toList.take k) := ⟨_, rfl⟩
    rw [← ho] at hown hrun
    have HO := Hid.mk ho
    have hol : o.length ≤ 2000 := by
      have := putF_len2 (s.data.toList.take k)
      rw [← ho, List.length_take] at this
      omega
    have h4 : (endR o).2 ≤ 4 := by rw [ho]; exact putF_keep _ (rowB_take HR.out k)
    have H4 := Hid.mk h4
    have HRUN := Hid.mk hrun
    clear ho h4 hrun
    by_cases hlt : k < s.size
    · have hlt' : (k : Int) < (s.size : Int) := by omega
      obtain ⟨c, hcE⟩ : ∃ c, c = s[k] := ⟨_, rfl⟩
      have hbit : bit c = true := by rw [hcE]; exact rowB_at HR.out k hlt
      have hnext : putF (s.data.toList.take (k + 1)) = putS o c := by rw [take_snoc s k hlt, putF_snoc, ← HO.out, hcE]
      have HN := Hid.mk hnext
      have HBIT := Hid.mk hbit
      have hcv : s[k] = c := hcE.symm
      clear hcE hnext hbit
      go_wp2_with (at_builtin; refine wpList_append_own _ rfl (.tmp 18) (.tmp 22) 31 rfl (w1.heap.size + 1) 5 i0 (.int .u8 0) 1 1 Tryd.underlying31 hi hz0 hz1 hz2 rfl (by decide) _ _ _ rfl (hown.alloc _) ⟨wr.heap.size, 0, none⟩ 1 1 [Value.int .u8 c.toNat] rfl rfl (by intro q u hq; match q, hq with | 0, hq => (simp at hq; subst hq; simp [Addr.add])) (by intro u hu; simp at hu; subst hu; rfl) (by unfold maxLen; omega) (by omega) (by simp; omega) ?_; intro v1 w2 hown1 hgrow1 _)
      have hbw2 : Below (w1.heap.size + 1) wr w2 := Below.grown ((Below.refl _ _).alloc hsz _) hgrow1 (by simp; omega) (fun q hq => (hown.lt q hq).1)
      have hrun2 := isRun_at HRUN.out hbw2 (by omega)
      have hbel2 := hbel.trans (hbw2.mono (Nat.le_trans hw1 (Nat.le_succ _)))
      have hsz2 : w1.heap.size + 1 ≤ w2.heap.size := Nat.le_trans hsz hbw2.size
      have hown1' : w2.ownsRow (w1.heap.size + 1) 5 1 v1 (o ++ [c]).length (cellsOf (o ++ [c])) := by
        rw [cellsOf_append, List.length_append]; exact hown1
      have HOWN1 := Hid.mk hown1'
      have hadd := add_any w1.heap.size (endR o) c w2 (by have := H4.out; omega) hrun2
      rw [← endR_snoc] at hadd
      have HADD := Hid.mk hadd
      clear hown hown1 hown1' hgrow1 hbw2 hbel hsz hrun2 HRUN hadd
      go_wp2_with fail
      refine HADD.out.mono ?_
      rintro e w3 ⟨rfl, hrun3, hat3⟩
      have hown3 := hat3.owns HOWN1.out (Nat.lt_succ_self _)
      have hbel3 := hbel2.trans (hat3.below hw1)
      have hsz3 : w1.heap.size + 1 ≤ w3.heap.size := by rw [hat3.size]; exact hsz2
      clear HOWN1 HADD hat3 hbel2 hsz2
      by_cases h5 : (endR (o ++ [c])).2 = 5
      · have h5b : ((endR (o ++ [c])).2 == 5) = true := by simpa using h5
        have hS : putS o c = o ++ [c] ++ [otb c] := by unfold putS; rw [if_pos h5]
        have HS := Hid.mk hS
        have HRUN3 := Hid.mk hrun3
        have H5 := Hid.mk h5
        have hol2 : (o ++ [c]).length ≤ 2001 := by rw [List.length_append]; simp; omega
        clear h5 hS hrun3
        go_wp2_with fail
        refine (otherS_any c w3 HBIT.out).mono ?_
        rintro e w3' ⟨rfl, hw3⟩
        subst hw3
        go_wp2_with (at_builtin; refine wpList_append_own _ rfl (.tmp 28) (.tmp 33) 31 rfl (w1.heap.size + 1) 5 i0 (.int .u8 0) 1 1 Tryd.underlying31 hi hz0 hz1 hz2 rfl (by decide) _ _ _ rfl (hown3.alloc _) ⟨w3'.heap.size, 0, none⟩ 1 1 [Value.int .u8 (otb c).toNat] rfl rfl (by intro q u hq; match q, hq with | 0, hq => (simp at hq; subst hq; simp [Addr.add])) (by intro u hu; simp at hu; subst hu; rfl) (by unfold maxLen; omega) (by omega) (by simp; omega) ?_; intro v4 w4 hown4 hgrow4 _)
        have hbw4 : Below (w1.heap.size + 1) w3' w4 := Below.grown ((Below.refl _ _).alloc hsz3 _) hgrow4 (by simp; omega) (fun q hq => (hown3.lt q hq).1)
        have hrun4 := isRun_at HRUN3.out hbw4 (by omega)
        have hbel4 := hbel3.trans (hbw4.mono (Nat.le_trans hw1 (Nat.le_succ _)))
        have hsz4 : w1.heap.size + 1 ≤ w4.heap.size := Nat.le_trans hsz3 hbw4.size
        have hown4' : w4.ownsRow (w1.heap.size + 1) 5 1 v4 (o ++ [c] ++ [otb c]).length (cellsOf (o ++ [c] ++ [otb c])) := by
          rw [cellsOf_append, show (o ++ [c] ++ [otb c]).length = (o ++ [c]).length + 1 from List.length_append ..]; exact hown4
        have HOWN4 := Hid.mk hown4'
        have HRUN4 := Hid.mk hrun4
        clear hown3 hown4 hown4' hgrow4 hbw4 hbel3 hsz3 hrun4 HRUN3
        go_wp2_with fail
        refine (otherS_any c w4 HBIT.out).mono ?_
        rintro e w4' ⟨rfl, hw4⟩
        subst hw4
        have hadd := add_any w1.heap.size (endR (o ++ [c])) (otb c) w4' (by have := H5.out; omega) HRUN4.out
        rw [← endR_snoc] at hadd
        have HADD := Hid.mk hadd
        clear hadd HRUN4
        go_wp2_with fail
        refine HADD.out.mono ?_
        rintro e w5 ⟨rfl, hrun5, hat5⟩
        have hown5 := hat5.owns HOWN4.out (Nat.lt_succ_self _)
        have hbel5 := hbel4.trans (hat5.below hw1)
        have hsz5 : w1.heap.size + 1 ≤ w5.heap.size := by rw [hat5.size]; exact hsz4
        clear HOWN4 HADD hat5 hbel4 hsz4
        go_wp2_with fail
        go_roundw
        case rel => exact ⟨k + 1, by omega, by go_num, by rw [HN.out, HS.out]; exact hown5, by rw [HN.out, HS.out]; exact hrun5, hbel5, hsz5⟩
        case measure => simp [intOf]; omega
      · have h5b : ((endR (o ++ [c])).2 == 5) = false := by simpa using h5
        have hS : putS o c = o ++ [c] := by unfold putS; rw [if_neg h5]
        have HS := Hid.mk hS
        clear h5 hS
        go_wp2_with fail
        go_roundw
        case rel => exact ⟨k + 1, by omega, by go_num, by rw [HN.out, HS.out]; exact hown3, by rw [HN.out, HS.out]; exact hrun3, hbel3, hsz3⟩
        case measure => simp [intOf]; omega
    · have e : k = s.size := by omega
      subst e
      have hfin : o = putF s.data.toList := by rw [HO.out, List.take_of_length_le (by simp)]
      subst hfin
      have hcv := convert_own hown
      clear hown
      go_wp2_with fail
      go_ret2
      exact ⟨rfl, hbel⟩

/-- what Put answers of any text -/
def putA (l : List UInt8) : Value := if checkE l = 0 then .tuple #[.string ⟨(putF l).toArray⟩, .int .i64 0] else .tuple #[.string ⟨#[]⟩, .int .i64 (checkE l)]
theorem put_any (s : ByteArray) (w : World) (hs : s.size ≤ maxLen) :
    Calls Tryd.prog 33 #[.string s] w fun e w' => e = .returned (putA s.data.toList) ∧ Below w.heap.size w w' := by
  unfold putA
  by_cases hc : checkE s.data.toList = 0
  · rw [if_pos hc]; exact put_ok s w hc
  · rw [if_neg hc]; exact put_bad s w hs hc
end Bw
end Go.Proofs.YtdhmjbnpdmneiacDoor

/- What stuff.Take answers of any text and any number: the bits that were there ahead of Put, how many bits they take, and else which error. -/
namespace Go.Proofs.YtdhmjbnpdmneiacDoor
open Go.ChangeShapes Go.WideShapes Go.ChangeAt Go.RowKit
namespace Bw
open Bm

set_option maxHeartbeats 1000000 in
theorem take_bad (s : ByteArray) (n : Int) (w : World) (hs : s.size ≤ maxLen) (hc : checkE s.data.toList ≠ 0) :
    Calls Tryd.prog 73 #[.string s, .int .i64 n] w fun e w' => e = .returned (.tuple #[.string ⟨#[]⟩, .int .i64 0, .int .i64 (checkE s.data.toList)]) ∧ Below w.heap.size w w' := by
  have HS := Hid.mk hs
  have hc' : (checkE s.data.toList == 0) = false := by simpa using hc
  clear hs
  go_enter Tryd.func73, Tryd.ntmps73
  go_wp2_with fail
  refine (check_any s w HS.out).mono ?_
  rintro e w1 ⟨rfl, hb1⟩
  go_wp2_with fail
  go_ret3
  exact ⟨rfl, hb1⟩

set_option maxHeartbeats 1000000 in
theorem take_range (s : ByteArray) (n : Int) (w : World) (hc : checkE s.data.toList = 0) (hn : n < 0 ∨ 1000 < n) :
    Calls Tryd.prog 73 #[.string s, .int .i64 n] w fun e w' => e = .returned (.tuple #[.string ⟨#[]⟩, .int .i64 0, .int .i64 3]) ∧ Below w.heap.size w w' := by
  obtain ⟨h1000, hrow⟩ := small_of_check hc
  have hck := fun W => check_any s W (by unfold maxLen; omega)
  rw [hc] at hck
  have HN := Hid.mk hn
  clear hc hrow hn
  go_enter Tryd.func73, Tryd.ntmps73
  go_wp2_with fail
  refine (hck w).mono ?_
  rintro e w1 ⟨rfl, hb1⟩
  clear hck
  go_wp2_with fail
  refine (isLength_no n w1 HN.out).mono ?_
  rintro e w2 ⟨rfl, hw2⟩
  subst hw2
  go_wp2_with fail
  go_ret3
  exact ⟨rfl, hb1⟩


set_option maxHeartbeats 8000000 in
set_option maxRecDepth 100000 in
theorem take_ok (s : ByteArray) (n : Nat) (w : World) (hc : checkE s.data.toList = 0) (hn : n ≤ 1000) :
    Calls Tryd.prog 73 #[.string s, .int .i64 n] w fun e w' => e = .returned (takeV (takeG s.data.toList n 0 [])) ∧ Below w.heap.size w w' := by
  obtain ⟨i0, hi, hz0, hz1, hz2⟩ := info_parts info_u8
  obtain ⟨h1000, hrow⟩ := small_of_check hc
  have hck := fun W => check_any s W (by unfold maxLen; omega)
  rw [hc] at hck
  clear hc hrow
  obtain ⟨A, hA⟩ : ∃ A, A = takeG s.data.toList n 0 [] := ⟨_, rfl⟩
  rw [← hA]
  have HA := Hid.mk hA
  clear hA
  have hll : s.data.toList.length = s.size := by simp
  have HLL := Hid.mk hll
  clear hll
  go_enter Tryd.func73, Tryd.ntmps73
  go_wp2_with fail
  refine (hck w).mono ?_
  rintro e w1 ⟨rfl, hb1⟩
  clear hck
  have hw1 := hb1.size
  go_wp2_with fail
  refine (isLength_yes n w1 (by omega) (by omega)).mono ?_
  rintro e w2 ⟨rfl, hw2⟩
  subst hw2
  go_wp2_with fail
  go_loopw [8, 10, 21] (fun r uu i wr => ∃ (k u : Nat) (o : List UInt8), k ≤ n ∧ u ≤ s.size ∧ i = .int .i64 k ∧ uu = .int .i64 u ∧ o.length = k ∧ (endR (s.data.toList.take u)).2 ≤ 4 ∧ takeG s.data.toList (n - k) u o = A ∧ wr.ownsRow (w2.heap.size + 1) 5 1 r o.length (cellsOf o) ∧ isRun wr w2.heap.size (endR (s.data.toList.take u)) ∧ Below w.heap.size w wr ∧ w2.heap.size + 1 ≤ wr.heap.size) (fun _ _ i _ => n - (intOf i).toNat)
  case atStart => exact ⟨0, 0, [], Nat.zero_le _, Nat.zero_le _, rfl, rfl, rfl, by simp [endR], HA.out.symm, World.ownsRow_nil _ _ _ _, heap_alloc_new w2 _, hb1.alloc hw1 _, by simp⟩
  case round =>
    obtain ⟨k, u, o, hk, hu, rfl, rfl, hol, h4, hG, hown, hrun, hbel, hsz⟩ := hrel
    have HG := Hid.mk hG
    have H4 := Hid.mk h4
    have HOL := Hid.mk hol
    have HRUN := Hid.mk hrun
    have hol2 : o.length ≤ 1000 := by omega
    clear hG h4 hrun hol
    by_cases hkn : k < n
    · have hkn' : (k : Int) < (n : Int) := by omega
      have hm : n - k = (n - (k + 1)) + 1 := by omega
      have HM := Hid.mk hm
      clear hm
      by_cases hlt : u < s.size
      · have hlt' : (u : Int) < (s.size : Int) := by omega
        obtain ⟨c, hcE⟩ : ∃ c, c = s[u] := ⟨_, rfl⟩
        have hgd : s.data.toList.getD u 0 = c := by rw [hcE, at_getD s u hlt]
        have HGD := Hid.mk hgd
        have hcv : s[u] = c := hcE.symm
        clear hcE hgd
        go_wp2_with (at_builtin; refine wpList_append_own _ rfl (.tmp 32) (.tmp 34) 31 rfl (w2.heap.size + 1) 5 i0 (.int .u8 0) 1 1 Tryd.underlying31 hi hz0 hz1 hz2 rfl (by decide) _ _ _ rfl (hown.alloc _) ⟨wr.heap.size, 0, none⟩ 1 1 [Value.int .u8 c.toNat] rfl rfl (by intro q u hq; match q, hq with | 0, hq => (simp at hq; subst hq; simp [Addr.add])) (by intro u hu; simp at hu; subst hu; rfl) (by unfold maxLen; omega) (by omega) (by simp; omega) ?_; intro v1 w3 hown1 hgrow1 _)
        have hbw3 : Below (w2.heap.size + 1) wr w3 := Below.grown ((Below.refl _ _).alloc hsz _) hgrow1 (by simp; omega) (fun q hq => (hown.lt q hq).1)
        have hrun3 := isRun_at HRUN.out hbw3 (by omega)
        have hbel3 := hbel.trans (hbw3.mono (Nat.le_trans hw1 (Nat.le_succ _)))
        have hsz3 : w2.heap.size + 1 ≤ w3.heap.size := Nat.le_trans hsz hbw3.size
        have hown1' : w3.ownsRow (w2.heap.size + 1) 5 1 v1 (o ++ [c]).length (cellsOf (o ++ [c])) := by
          rw [cellsOf_append, List.length_append]; exact hown1
        have HOWN1 := Hid.mk hown1'
        have hadd := add_any w2.heap.size (endR (s.data.toList.take u)) c w3 (by have := H4.out; omega) hrun3
        have hnx := end_next s.data.toList u (by rw [HLL.out]; exact hlt)
        rw [HGD.out] at hnx
        rw [← hnx] at hadd
        have HADD := Hid.mk hadd
        have hon := end_on s.data.toList u (by rw [HLL.out]; exact hlt) H4.out
        have HON := Hid.mk hon
        clear hown hown1 hown1' hgrow1 hbw3 hbel hsz hrun3 HRUN hadd hnx hon
        go_wp2_with fail
        refine HADD.out.mono ?_
        rintro e w4 ⟨rfl, hrun4, hat4⟩
        have hown4 := hat4.owns HOWN1.out (Nat.lt_succ_self _)
        have hbel4 := hbel3.trans (hat4.below hw1)
        have hsz4 : w2.heap.size + 1 ≤ w4.heap.size := by rw [hat4.size]; exact hsz3
        have HRUN4 := Hid.mk hrun4
        clear HOWN1 HADD hat4 hbel3 hsz3 hrun4
        by_cases h5 : (endR (s.data.toList.take (u + 1))).2 = 5
        · have h5b : ((endR (s.data.toList.take (u + 1))).2 == 5) = true := by simpa using h5
          have H5 := Hid.mk h5
          clear h5
          by_cases hlt2 : u + 1 < s.size
          · have hlt2' : (u : Int) + 1 < (s.size : Int) := by omega
            obtain ⟨d, hdE⟩ : ∃ d, d = s[u + 1] := ⟨_, rfl⟩
            have hgd2 : s.data.toList.getD (u + 1) 0 = d := by rw [hdE, at_getD s (u + 1) hlt2]
            have HGD2 := Hid.mk hgd2
            have hdv : s[u + 1] = d := hdE.symm
            clear hdE hgd2
            by_cases h6 : d = c
            · have h6' : ((d.toNat : Int) == (c.toNat : Int)) = true := by rw [h6]; simp
              have hfin : A = ([], 0, 5) := by
                rw [← HG.out, HM.out]
                exact takeG_six _ _ _ _ (by rw [HLL.out]; exact hlt2) H5.out (by rw [HGD.out, HGD2.out]; exact h6)
              subst hfin
              clear h6
              go_wp2_with fail
              go_ret3
              exact ⟨rfl, hbel4⟩
            · have h6' : ((d.toNat : Int) == (c.toNat : Int)) = false := by
                have : d.toNat ≠ c.toNat := fun h => h6 (UInt8.toNat_inj.1 h)
                rw [beq_eq_false_iff_ne]; omega
              have hG2 : takeG s.data.toList (n - (k + 1)) (u + 2) (o ++ [c]) = A := by
                rw [← HG.out, HM.out, takeG_on5 _ _ _ _ (by rw [HLL.out]; exact hlt2) H5.out (by rw [HGD.out, HGD2.out]; exact h6), HGD.out]
              have HG2 := Hid.mk hG2
              have hadd := add_any w2.heap.size (endR (s.data.toList.take (u + 1))) d w4 (by have := H5.out; omega) HRUN4.out
              have hnx := end_next s.data.toList (u + 1) (by rw [HLL.out]; exact hlt2)
              rw [HGD2.out] at hnx
              rw [← hnx] at hadd
              have HADD := Hid.mk hadd
              have hon := end_on5 s.data.toList u (by rw [HLL.out]; exact hlt2) (by rw [HGD.out, HGD2.out]; exact h6)
              have hon' : (endR (s.data.toList.take (u + 2))).2 ≤ 4 := by rw [hon]; simp
              have HON2 := Hid.mk hon'
              clear h6 hG2 hadd hnx hon hon' HRUN4
              go_wp2_with fail
              refine HADD.out.mono ?_
              rintro e w5 ⟨rfl, hrun5, hat5⟩
              have hown5 := hat5.owns hown4 (Nat.lt_succ_self _)
              have hbel5 := hbel4.trans (hat5.below hw1)
              have hsz5 : w2.heap.size + 1 ≤ w5.heap.size := by rw [hat5.size]; exact hsz4
              clear hown4 HADD hat5 hbel4 hsz4
              go_wp2_with fail
              go_roundw
              case rel => exact ⟨k + 1, u + 2, o ++ [c], by omega, by omega, by go_num, int_eq (by omega), by rw [List.length_append, HOL.out]; rfl, HON2.out, HG2.out, hown5, hrun5, hbel5, hsz5⟩
              case measure => simp [intOf]; omega
          · have hlt2' : ((u : Int) + 1 == (s.size : Int)) = true := by simp; omega
            have hfin : A = ([], 0, 7) := by
              rw [← HG.out, HM.out]
              exact takeG_end5 _ _ _ _ (by rw [HLL.out]; omega) H5.out
            subst hfin
            go_wp2_with fail
            go_ret3
            exact ⟨rfl, hbel4⟩
        · have h5b : ((endR (s.data.toList.take (u + 1))).2 == 5) = false := by simpa using h5
          have hG2 : takeG s.data.toList (n - (k + 1)) (u + 1) (o ++ [c]) = A := by
            rw [← HG.out, HM.out, takeG_on _ _ _ _ (by rw [HLL.out]; exact hlt) h5, HGD.out]
          have HG2 := Hid.mk hG2
          have hon := HON.out h5
          have HON2 := Hid.mk hon
          clear h5 hG2 hon
          go_wp2_with fail
          go_roundw
          case rel => exact ⟨k + 1, u + 1, o ++ [c], by omega, by omega, by go_num, int_eq (by omega), by rw [List.length_append, HOL.out]; rfl, HON2.out, HG2.out, hown4, HRUN4.out, hbel4, hsz4⟩
          case measure => simp [intOf]; omega
      · have hlt' : ((u : Int) == (s.size : Int)) = true := by simp; omega
        have hfin : A = ([], 0, 7) := by
          rw [← HG.out, HM.out]
          exact takeG_end _ _ _ _ (by rw [HLL.out]; omega)
        subst hfin
        clear hown
        go_wp2_with fail
        go_ret3
        exact ⟨rfl, hbel⟩
    · have e : k = n := by omega
      subst e
      have hfin : A = (o, u, 0) := by rw [← HG.out, Nat.sub_self, takeG_zero]
      subst hfin
      have hcv := convert_own hown
      clear hown
      go_wp2_with fail
      go_ret3
      exact ⟨rfl, hbel⟩
end Bw
end Go.Proofs.YtdhmjbnpdmneiacDoor

/- What the readers' small methods answer: a fault, plain bits, bits without those put in. -/
namespace Go.Proofs.YtdhmjbnpdmneiacDoor
open Go.ChangeShapes Go.WideShapes Go.ChangeAt Go.RowKit
namespace Bw
open Bm Cm Go.Sort

/-- what a reader knows of the frame -/
structure Fd where
  id : Int
  lo : Bool
  fa : Bool
  re : Bool
  sz : Int
  d : Value
/-- block g holds a reader -/
def RdAt (w : World) (g : Nat) (b : ByteArray) (S : RS) (F : Fd) : Prop :=
  w.heap[g]? = some (.cells #[.string b, .int .i64 S.u, .int .i64 S.fl, .string ⟨S.o.toArray⟩, .int .i64 F.id, .bool F.lo, .bool F.fa, .bool F.re, .int .i64 F.sz, F.d] 65 (0, 0))
theorem RdAt.lt {w : World} {g : Nat} {b : ByteArray} {S : RS} {F : Fd} (h : RdAt w g b S F) : g < w.heap.size := by
  rcases Nat.lt_or_ge g w.heap.size with h' | h'
  · exact h'
  · unfold RdAt at h; rw [Array.getElem?_eq_none h'] at h; cases h
theorem RdAt.kept {w w' : World} {g : Nat} {b : ByteArray} {S : RS} {F : Fd} (h : RdAt w g b S F) (hb : Below w.heap.size w w') : RdAt w' g b S F := by
  unfold RdAt; rw [hb.block g h.lt]; exact h
theorem RdAt.cell {w : World} {g : Nat} {b : ByteArray} {S : RS} {F : Fd} (h : RdAt w g b S F) (k : Nat) : w.cell? ⟨g, k, none⟩ = #[.string b, .int .i64 S.u, .int .i64 S.fl, .string ⟨S.o.toArray⟩, .int .i64 F.id, .bool F.lo, .bool F.fa, .bool F.re, .int .i64 F.sz, F.d][k]? := cell_of_row w g k _ _ _ h
theorem RdAt.c0 {w : World} {g : Nat} {b : ByteArray} {S : RS} {F : Fd} (h : RdAt w g b S F) : w.cell? ⟨g, 0, none⟩ = some (.string b) := h.cell 0
theorem RdAt.c1 {w : World} {g : Nat} {b : ByteArray} {S : RS} {F : Fd} (h : RdAt w g b S F) : w.cell? ⟨g, 1, none⟩ = some (.int .i64 S.u) := h.cell 1
theorem RdAt.c2 {w : World} {g : Nat} {b : ByteArray} {S : RS} {F : Fd} (h : RdAt w g b S F) : w.cell? ⟨g, 2, none⟩ = some (.int .i64 S.fl) := h.cell 2
theorem RdAt.c3 {w : World} {g : Nat} {b : ByteArray} {S : RS} {F : Fd} (h : RdAt w g b S F) : w.cell? ⟨g, 3, none⟩ = some (.string ⟨S.o.toArray⟩) := h.cell 3
theorem RdAt.c4 {w : World} {g : Nat} {b : ByteArray} {S : RS} {F : Fd} (h : RdAt w g b S F) : w.cell? ⟨g, 4, none⟩ = some (.int .i64 F.id) := h.cell 4
theorem RdAt.c5 {w : World} {g : Nat} {b : ByteArray} {S : RS} {F : Fd} (h : RdAt w g b S F) : w.cell? ⟨g, 5, none⟩ = some (.bool F.lo) := h.cell 5
theorem RdAt.c6 {w : World} {g : Nat} {b : ByteArray} {S : RS} {F : Fd} (h : RdAt w g b S F) : w.cell? ⟨g, 6, none⟩ = some (.bool F.fa) := h.cell 6
theorem RdAt.c7 {w : World} {g : Nat} {b : ByteArray} {S : RS} {F : Fd} (h : RdAt w g b S F) : w.cell? ⟨g, 7, none⟩ = some (.bool F.re) := h.cell 7
theorem RdAt.c8 {w : World} {g : Nat} {b : ByteArray} {S : RS} {F : Fd} (h : RdAt w g b S F) : w.cell? ⟨g, 8, none⟩ = some (.int .i64 F.sz) := h.cell 8
theorem RdAt.c9 {w : World} {g : Nat} {b : ByteArray} {S : RS} {F : Fd} (h : RdAt w g b S F) : w.cell? ⟨g, 9, none⟩ = some F.d := h.cell 9
theorem RdAt.z {w : World} {g : Nat} {b : ByteArray} {S : RS} {F : Fd} (h : RdAt w g b S F) (k : Nat) : w.frozen? ⟨g, k, none⟩ = false := frozen_of_row w g k _ _ h
theorem RdAt.setU {w : World} {g : Nat} {b : ByteArray} {S : RS} {F : Fd} (h : RdAt w g b S F) (n : Nat) : RdAt (w.setCell ⟨g, 1, none⟩ (.int .i64 n)) g b ⟨S.fl, n, S.o⟩ F := heap_setCell_same w g 1 _ _ _ h
theorem RdAt.setFl {w : World} {g : Nat} {b : ByteArray} {S : RS} {F : Fd} (h : RdAt w g b S F) (e : Int) : RdAt (w.setCell ⟨g, 2, none⟩ (.int .i64 e)) g b ⟨e, S.u, S.o⟩ F := heap_setCell_same w g 2 _ _ _ h
theorem RdAt.setO {w : World} {g : Nat} {b : ByteArray} {S : RS} {F : Fd} (h : RdAt w g b S F) (o : List UInt8) : RdAt (w.setCell ⟨g, 3, none⟩ (.string ⟨o.toArray⟩)) g b ⟨S.fl, S.u, o⟩ F := heap_setCell_same w g 3 _ _ _ h
theorem RdAt.setId {w : World} {g : Nat} {b : ByteArray} {S : RS} {F : Fd} (h : RdAt w g b S F) (x : Int) : RdAt (w.setCell ⟨g, 4, none⟩ (.int .i64 x)) g b S ⟨x, F.lo, F.fa, F.re, F.sz, F.d⟩ := heap_setCell_same w g 4 _ _ _ h
theorem RdAt.setLo {w : World} {g : Nat} {b : ByteArray} {S : RS} {F : Fd} (h : RdAt w g b S F) (x : Bool) : RdAt (w.setCell ⟨g, 5, none⟩ (.bool x)) g b S ⟨F.id, x, F.fa, F.re, F.sz, F.d⟩ := heap_setCell_same w g 5 _ _ _ h
theorem RdAt.setFa {w : World} {g : Nat} {b : ByteArray} {S : RS} {F : Fd} (h : RdAt w g b S F) (x : Bool) : RdAt (w.setCell ⟨g, 6, none⟩ (.bool x)) g b S ⟨F.id, F.lo, x, F.re, F.sz, F.d⟩ := heap_setCell_same w g 6 _ _ _ h
theorem RdAt.setRe {w : World} {g : Nat} {b : ByteArray} {S : RS} {F : Fd} (h : RdAt w g b S F) (x : Bool) : RdAt (w.setCell ⟨g, 7, none⟩ (.bool x)) g b S ⟨F.id, F.lo, F.fa, x, F.sz, F.d⟩ := heap_setCell_same w g 7 _ _ _ h
theorem RdAt.setSz {w : World} {g : Nat} {b : ByteArray} {S : RS} {F : Fd} (h : RdAt w g b S F) (x : Int) : RdAt (w.setCell ⟨g, 8, none⟩ (.int .i64 x)) g b S ⟨F.id, F.lo, F.fa, F.re, x, F.d⟩ := heap_setCell_same w g 8 _ _ _ h
theorem RdAt.setD {w : World} {g : Nat} {b : ByteArray} {S : RS} {F : Fd} (h : RdAt w g b S F) (x : Value) : RdAt (w.setCell ⟨g, 9, none⟩ x) g b S ⟨F.id, F.lo, F.fa, F.re, F.sz, x⟩ := heap_setCell_same w g 9 _ _ _ h
theorem Tch.rd {gs : List Nat} {w w' : World} (ht : Tch gs w w') {g : Nat} {b : ByteArray} {S : RS} {F : Fd} (h : RdAt w g b S F) (hg : g ∉ gs) : RdAt w' g b S F := by
  unfold RdAt; rw [ht.block g h.lt hg]; exact h

set_option maxHeartbeats 1000000 in
theorem fail_any (g : Nat) (b : ByteArray) (S : RS) (F : Fd) (x : Int) (w : World) (h : RdAt w g b S F) :
    Calls Tryd.prog 65 #[.pointer (some ⟨g, 0, none⟩), .int .i64 x] w fun e w' => e = .returned (.tuple #[]) ∧ RdAt w' g b (failP S x) F ∧ Tch [g] w w' := by
  have hc := h.c2
  have hz := h.z 2
  have H := Hid.mk h
  unfold failP
  clear h
  by_cases hf : S.fl = 0
  · rw [if_pos hf]
    rw [hf] at hc
    go_enter Tryd.func65, Tryd.ntmps65
    go_wp2_with fail
    go_end0
    exact ⟨rfl, H.out.setFl x, (Tch.refl _ _).setK (by simp) _ _⟩
  · rw [if_neg hf]
    have h1 : (S.fl == 0) = false := by simpa using hf
    go_enter Tryd.func65, Tryd.ntmps65
    go_wp2_with fail
    go_end0
    exact ⟨rfl, H.out, Tch.refl _ _⟩

theorem failP_7 (b : List UInt8) (S : RS) (n : Nat) (h : b.length < S.u + n) : (failP S 7).fl ≠ 0 ∧ nextP b S n = ([], failP S 7) := by
  unfold failP nextP
  by_cases hf : S.fl = 0
  · rw [if_pos hf, if_pos hf, if_pos h]
    exact ⟨by simp, rfl⟩
  · rw [if_neg hf, if_neg hf]
    exact ⟨hf, rfl⟩
set_option maxHeartbeats 2000000 in
theorem nextB_any (g n : Nat) (b : ByteArray) (S : RS) (F : Fd) (w : World) (h : RdAt w g b S F) (h1000 : b.size ≤ 1000) (hu : S.u ≤ b.size) (hn : n ≤ 1000) :
    Calls Tryd.prog 67 #[.pointer (some ⟨g, 0, none⟩), .int .i64 n] w fun e w' =>
      e = .returned (.string ⟨(nextP b.data.toList S n).1.toArray⟩) ∧ RdAt w' g b (nextP b.data.toList S n).2 F ∧ Tch [g] w w' := by
  have hbl : b.data.toList.length = b.size := by simp
  have c0 := h.c0
  have c1 := h.c1
  have c2 := h.c2
  have z1 := h.z 1
  by_cases hlt : b.size < S.u + n
  · obtain ⟨hne, he⟩ := failP_7 b.data.toList S n (by rw [hbl]; exact hlt)
    rw [he]
    have hfa := fun W hW => fail_any g b S F 7 W hW
    have hd : decide ((b.size : Int) - (S.u : Int) < (n : Int)) = true := by simp; omega
    have hnb : ((failP S 7).fl != 0) = true := by simpa using hne
    have HFA := Hid.mk hfa
    have H := Hid.mk h
    clear h hfa hbl he hne
    go_enter Tryd.func67, Tryd.ntmps67
    go_wp2_with fail
    go_quiet (fail)
    have hB : Below w.heap.size w (w.drewN nq) := ⟨rfl, rfl, rfl, Nat.le_refl _, fun _ _ => rfl⟩
    go_wp2_with fail
    refine (HFA.out _ (H.out.kept hB)).mono ?_
    rintro e w1 ⟨rfl, h1, t1⟩
    have t2 : Tch [g] w w1 := (Tch.of hB).trans t1
    have k2 := h1.c2
    have H1 := Hid.mk h1
    clear hB t1 h1 c0 c1 c2 z1 H HFA
    go_wp2_with fail
    go_ret
    exact ⟨rfl, H1.out, t2⟩
  · have hle : (S.u : Int) + (n : Int) ≤ (b.size : Int) := by omega
    have hd : decide ((b.size : Int) - (S.u : Int) < (n : Int)) = false := by simp; omega
    unfold nextP
    rw [hbl]
    by_cases hf : S.fl = 0
    · rw [if_pos hf, if_neg hlt]
      rw [hf] at c2
      have H := Hid.mk h
      have hx : (b.extract S.u (S.u + n)).data.toList = (b.data.toList.drop S.u).take n := extract_list b S.u n
      have hsl : ∀ W, (Instr.slice 9 (.string b) (some (.int .i64 (S.u : Int))) (some (.int .i64 ((S.u : Int) + (n : Int)))) none).run Tryd.prog W = .ok (.string ⟨((b.data.toList.drop S.u).take n).toArray⟩) W := by
        intro W
        rw [run_slice_string W _ b _ _ _ _ Tryd.underlying9 (by omega) (by omega) (by omega)]
        have e1 : ((S.u : Int)).toNat = S.u := by omega
        have e2 : ((S.u : Int) + (n : Int)).toNat = S.u + n := by omega
        rw [e1, e2, ba_eq hx]
      generalize ByteArray.mk ((b.data.toList.drop S.u).take n).toArray = T at *
      clear hbl hx h
      go_enter Tryd.func67, Tryd.ntmps67
      go_wp2_with fail
      go_quiet (fail)
      obtain ⟨w1, hw1⟩ : ∃ w1, w1 = w.drewN nq := ⟨_, rfl⟩
      have hB : Below w.heap.size w w1 := by rw [hw1]; exact ⟨rfl, rfl, rfl, Nat.le_refl _, fun _ _ => rfl⟩
      rw [← hw1]
      have h1 := H.out.kept hB
      have d0 := h1.c0
      have d1 := h1.c1
      have d2 := h1.c2
      rw [hf] at d2
      have y1 := h1.z 1
      have hs := h1.setU (S.u + n)
      rw [show ((S.u + n : Nat) : Int) = (S.u : Int) + (n : Int) by omega] at hs
      have ht : Tch [g] w (w1.setCell ⟨g, 1, none⟩ (.int .i64 ((S.u : Int) + (n : Int)))) := (Tch.of hB).setK (by simp) _ _
      have s0 := hs.c0
      have s1 := hs.c1
      rw [show ((S.u + n : Nat) : Int) = (S.u : Int) + (n : Int) by omega] at s1
      have HSS := Hid.mk hs
      have HT := Hid.mk ht
      clear hw1 hB h1 c0 c1 c2 z1 hs ht
      go_wp2_with fail
      go_quiet (fail)
      have hB2 : Below (w1.setCell ⟨g, 1, none⟩ (.int .i64 ((S.u : Int) + (n : Int)))).heap.size (w1.setCell ⟨g, 1, none⟩ (.int .i64 ((S.u : Int) + (n : Int)))) ((w1.setCell ⟨g, 1, none⟩ (.int .i64 ((S.u : Int) + (n : Int)))).drewN nq) := ⟨rfl, rfl, rfl, Nat.le_refl _, fun _ _ => rfl⟩
      go_wp2_with fail
      go_ret
      exact ⟨rfl, by rw [← hf]; exact HSS.out.kept hB2, HT.out.trans (Tch.of hB2)⟩
    · rw [if_neg hf]
      have hnb : (S.fl != 0) = true := by simpa using hf
      have H := Hid.mk h
      clear hbl h
      go_enter Tryd.func67, Tryd.ntmps67
      go_wp2_with fail
      go_quiet (fail)
      have hB : Below w.heap.size w (w.drewN nq) := ⟨rfl, rfl, rfl, Nat.le_refl _, fun _ _ => rfl⟩
      go_wp2_with fail
      go_ret
      exact ⟨rfl, H.out.kept hB, Tch.of hB⟩
end Bw
end Go.Proofs.YtdhmjbnpdmneiacDoor

/- What the readers' methods take, number and want answer. -/
namespace Go.Proofs.YtdhmjbnpdmneiacDoor
open Go.ChangeShapes Go.WideShapes Go.ChangeAt Go.RowKit
namespace Bw
open Bm Cm Go.Sort

theorem takeG_okP (b : List UInt8) (m : Nat) (h : (takeG b m 0 []).2.2 = 0) : (takeG b m 0 []).1.length = m := takeG_len b m h
set_option maxHeartbeats 4000000 in
theorem take_any (g n : Nat) (b : ByteArray) (S : RS) (F : Fd) (w : World) (h : RdAt w g b S F) (hc : checkE b.data.toList = 0) (ho : S.o.length + n ≤ 1000) :
    Calls Tryd.prog 64 #[.pointer (some ⟨g, 0, none⟩), .int .i64 n] w fun e w' =>
      e = .returned (.string ⟨(takeP b.data.toList S n).1.toArray⟩) ∧ RdAt w' g b (takeP b.data.toList S n).2 F ∧ Tch [g] w w' := by
  by_cases hf : S.fl = 0
  · have ht := fun W => take_ok b (S.o.length + n) W hc ho
    have hlen := takeG_okP b.data.toList (S.o.length + n)
    unfold takeP
    rw [if_pos hf]
    generalize takeG b.data.toList (S.o.length + n) 0 [] = A at *
    obtain ⟨o', u', er⟩ := A
    unfold takeV at ht
    simp only at ht hlen ⊢
    have c2 := h.c2
    rw [hf] at c2
    have hos := mk_size S.o
    have hTs := mk_size o'
    have hTl := mk_list o'
    have harg : ((S.o.length + n : Nat) : Int) = (S.o.length : Int) + (n : Int) := by omega
    rw [harg] at ht
    rw [← hos] at ht
    have r0 := fun d os => (cell_regrown h.c0 d os)
    have r3 := fun d os => (cell_regrown h.c3 d os)
    obtain ⟨O, hO⟩ : ∃ O, O = ByteArray.mk S.o.toArray := ⟨_, rfl⟩
    rw [← hO] at ht hos r3
    have hOm : O.size ≤ 1000 := by omega
    have hOn : (O.size : Int) + (n : Int) ≤ 1000 := by omega
    have HT := Hid.mk ht
    have H := Hid.mk h
    have HO := Hid.mk hO
    have HOS := Hid.mk hos
    have HLEN := Hid.mk hlen
    clear h ht hc ho hO hos hlen harg
    by_cases he : er = 0
    · subst he
      rw [if_pos rfl]
      have hl := HLEN.out rfl
      have htl : o'.length = O.size + n := by rw [hl, HOS.out]
      have hsl : ∀ W, (Instr.slice 9 (.string ⟨o'.toArray⟩) (some (.int .i64 (O.size : Int))) none none).run Tryd.prog W = .ok (.string ⟨(o'.drop S.o.length).toArray⟩) W := by
        intro W
        rw [run_slice_string_l W _ (ByteArray.mk o'.toArray) Tryd.underlying9 .i64 _ (by omega) (by rw [hTs, htl]; omega)]
        have e1 : ((O.size : Int)).toNat = S.o.length := by rw [HOS.out]; omega
        have e2 : (ByteArray.mk o'.toArray).size = S.o.length + n := by rw [hTs, htl, HOS.out]
        have e3 : ((ByteArray.mk o'.toArray).extract S.o.length (S.o.length + n)).data.toList = o'.drop S.o.length := by
          rw [extract_list, hTl, List.take_of_length_le (by rw [List.length_drop]; omega)]
        rw [e1, e2, ba_eq e3]
      obtain ⟨T, hT⟩ : ∃ T, T = ByteArray.mk o'.toArray := ⟨_, rfl⟩
      obtain ⟨X, hX⟩ : ∃ X, X = ByteArray.mk (o'.drop S.o.length).toArray := ⟨_, rfl⟩
      rw [← hT] at HT hTs hTl hsl
      rw [← hX] at hsl ⊢
      have HTT := Hid.mk hT
      have hTm : T.size ≤ 2000 := by rw [hTs]; omega
      clear hl htl hTs hTl hT hX
      go_enter Tryd.func64, Tryd.ntmps64
      go_wp2_with fail
      refine wp_region_quiet_below (by kernel_rfl) (by kernel_rfl) ?_
      set_option maxRecDepth 100000 in
      repeat (go_big_quiet_step ((go_at_call 73; exact Calls.regrown_of (HT.out _))))
      refine wpQuiet_nil ?_
      intro _ hw'
      obtain ⟨⟨dq, osq⟩, hw''⟩ := hw'
      have hbq := below_regrown w dq osq
      rw [hw'']
      generalize grow (redrawn w dq) osq = w1 at *
      clear r0 r3 hw''
      have h1 := H.out.kept hbq
      have d3 := h1.c3
      rw [← HO.out] at d3
      have z3 := h1.z 3
      have hs1 := h1.setO o'
      have z1 := hs1.z 1
      have hs2 := hs1.setU u'
      rw [← HTT.out] at hs1 hs2 z1
      have k1 := hs1.c1
      have ht2 : Tch [g] w ((w1.setCell ⟨g, 3, none⟩ (.string T)).setCell ⟨g, 1, none⟩ (.int .i64 u')) := ((Tch.of hbq).setK (by simp) _ _).setK (by simp) _ _
      have HS2 := Hid.mk hs2
      have HT2 := Hid.mk ht2
      clear hbq h1 hs1 hs2 ht2 c2
      go_wp2_with fail
      go_ret
      exact ⟨rfl, by rw [← hf]; exact HS2.out, HT2.out⟩
    · rw [if_neg he]
      have hne : (er != 0) = true := by simpa using he
      have hfl := fun W hW => fail_any g b S F er W hW
      have hfp : failP S er = ⟨er, S.u, S.o⟩ := by unfold failP; rw [if_pos hf]
      rw [hfp] at hfl
      have HF := Hid.mk hfl
      generalize ByteArray.mk o'.toArray = T at *
      clear hfl hfp hTs hTl he
      go_enter Tryd.func64, Tryd.ntmps64
      go_wp2_with fail
      refine wp_region_quiet_below (by kernel_rfl) (by kernel_rfl) ?_
      set_option maxRecDepth 100000 in
      repeat (go_big_quiet_step ((go_at_call 73; exact Calls.regrown_of (HT.out _))))
      refine wpQuiet_nil ?_
      intro _ hw'
      obtain ⟨⟨dq, osq⟩, hw''⟩ := hw'
      have hbq := below_regrown w dq osq
      rw [hw'']
      generalize grow (redrawn w dq) osq = w1 at *
      clear r0 r3 hw''
      have HR1 := Hid.mk (H.out.kept hbq)
      have HT1 := Hid.mk (show Tch [g] w w1 from Tch.of hbq)
      clear hbq c2
      go_wp2_with fail
      refine (HF.out _ HR1.out).mono ?_
      rintro e w2 ⟨rfl, h2, t2⟩
      go_wp2_with fail
      go_ret
      exact ⟨rfl, h2, HT1.out.trans t2⟩
  · have hp : takeP b.data.toList S n = ([], S) := by unfold takeP; rw [if_neg hf]
    rw [hp]
    have c2 := h.c2
    have hnb : (S.fl != 0) = true := by simpa using hf
    have H := Hid.mk h
    clear h hp hc ho
    go_enter Tryd.func64, Tryd.ntmps64
    go_wp2_with fail
    go_ret
    exact ⟨rfl, H.out, Tch.refl _ _⟩

theorem numV_row {l : List UInt8} (h : rowB l = true) (hl : l.length ≤ 62) : numE l = 0 ∧ numV l = val l := by
  have h0 : numE l = 0 := by
    unfold numE
    rw [checkE_row h (by omega), if_pos rfl, if_neg (by omega)]
  refine ⟨h0, ?_⟩
  unfold numV
  rw [if_pos h0]
set_option maxHeartbeats 2000000 in
theorem numb_any (g n : Nat) (b : ByteArray) (S : RS) (F : Fd) (w : World) (h : RdAt w g b S F) (hc : checkE b.data.toList = 0) (ho : S.o.length + n ≤ 1000) (hn : n ≤ 62) :
    Calls Tryd.prog 63 #[.pointer (some ⟨g, 0, none⟩), .int .i64 n] w fun e w' =>
      e = .returned (.int .i64 (numP b.data.toList S n).1) ∧ RdAt w' g b (numP b.data.toList S n).2 F ∧ Tch [g] w w' := by
  have ht := take_any g n b S F w h hc ho
  have hrow := takeP_row b.data.toList (small_of_check hc).2 S n
  have hlen := takeP_len b.data.toList S n
  unfold numP
  have hle : (takeP b.data.toList S n).1.length ≤ 62 := by
    rcases hlen with h' | h'
    · omega
    · rw [h']; simp
  obtain ⟨n1, n2⟩ := numV_row hrow hle
  generalize takeP b.data.toList S n = A at *
  obtain ⟨t, S'⟩ := A
  simp only at ht hle hrow n1 n2 ⊢
  have hTl := mk_list t
  generalize ByteArray.mk t.toArray = T at *
  have hnu := fun W => number_any T W (by rw [ba_size hTl]; unfold maxLen; omega)
  rw [hTl, n1, n2] at hnu
  have HT := Hid.mk ht
  have HN := Hid.mk hnu
  clear ht hrow hlen hTl hle n1 n2 hnu h hc ho hn
  generalize val t = vt at *
  go_enter Tryd.func63, Tryd.ntmps63
  go_wp2_with fail
  refine HT.out.mono ?_
  rintro e w1 ⟨rfl, h1, t1⟩
  go_wp2_with fail
  refine (HN.out _).mono ?_
  rintro e w2 ⟨rfl, hb2⟩
  have h2 := h1.kept hb2
  have t2 := t1.trans (Tch.of hb2)
  clear h1 t1 hb2
  go_wp2_with fail
  go_ret
  exact ⟨rfl, h2, t2⟩
end Bw
end Go.Proofs.YtdhmjbnpdmneiacDoor

/- What the reader's method want answers. -/
namespace Go.Proofs.YtdhmjbnpdmneiacDoor
open Go.ChangeShapes Go.WideShapes Go.ChangeAt Go.RowKit
namespace Bw
open Bm Cm Go.Sort

theorem str_eq {A B : ByteArray} {x y : List UInt8} (hA : A.data.toList = x) (hB : B.data.toList = y) : (A.toList == B.toList) = decide (x = y) := by
  rw [ByteArray.toList_eq, ByteArray.toList_eq, hA, hB, Bool.eq_iff_iff, beq_iff_eq, decide_eq_true_iff]
theorem str_ne {A B : ByteArray} {x y : List UInt8} (hA : A.data.toList = x) (hB : B.data.toList = y) : (A.toList != B.toList) = !decide (x = y) := by
  rw [bne, str_eq hA hB]
theorem RdAt.drew {w : World} {g : Nat} {b : ByteArray} {S : RS} {F : Fd} (h : RdAt w g b S F) : RdAt w.drew g b S F := h
theorem Tch.drew {gs : List Nat} {w a : World} (h : Tch gs w a) : Tch gs w a.drew := h.trans ⟨rfl, rfl, rfl, Nat.le_refl _, fun _ _ _ => rfl⟩

set_option maxHeartbeats 4000000 in
theorem want_any (g : Nat) (b l : ByteArray) (S : RS) (F : Fd) (n : Nat) (w : World) (h : RdAt w g b S F) (hc : checkE b.data.toList = 0) (hi : Inv b.data.toList S n) (hn : n + l.size ≤ 1000) :
    Calls Tryd.prog 62 #[.pointer (some ⟨g, 0, none⟩), .string l] w fun e w' =>
      e = .returned (.tuple #[]) ∧ RdAt w' g b (wantP b.data.toList S l.data.toList) F ∧ Tch [g] w w' := by
  have HI := Hid.mk hi
  have HC := Hid.mk hc
  have H := Hid.mk h
  have hll : l.data.toList.length = l.size := by simp
  have HLL := Hid.mk hll
  clear hi hc h hll
  go_enter Tryd.func62, Tryd.ntmps62
  go_wp2_with fail
  go_loopw [7] (fun i wr => ∃ j : Nat, j ≤ l.size ∧ i = .int .i64 j ∧ RdAt wr g b (wantP b.data.toList S (l.data.toList.take j)) F ∧ Tch [g] w wr) (fun i _ => l.size - (intOf i).toNat)
  case atStart => exact ⟨0, Nat.zero_le _, rfl, H.out, Tch.refl _ _⟩
  case round =>
    obtain ⟨j, hj, rfl, hR, hT⟩ := hrel
    by_cases hlt : j < l.size
    · have hlt' : (j : Int) < (l.size : Int) := by omega
      have hinv := Inv.want (small_of_check HC.out).2 (l.data.toList.take j) HI.out
      have hol := hinv.n
      rw [List.length_take, HLL.out] at hol
      have hnx : wantP b.data.toList S (l.data.toList.take (j + 1)) = wstep b.data.toList (wantP b.data.toList S (l.data.toList.take j)) (l.data.toList.getD j 0) := by
        rw [take_snocL _ _ (by rw [HLL.out]; exact hlt), wantP_snoc]
      generalize wantP b.data.toList S (l.data.toList.take j) = Sj at *
      have htk := fun W hW => take_any g 1 b Sj F W hW HC.out (by omega)
      have hxl : (l.extract j (j + 1)).data.toList = [l.data.toList.getD j 0] := by
        have hj' : j < l.data.toList.length := by rw [HLL.out]; exact hlt
        rw [extract_list l j 1, List.drop_eq_getElem_cons hj', List.getD, List.getElem?_eq_getElem hj']
        rfl
      have hsl : ∀ W, (Instr.slice 9 (.string l) (some (.int .i64 (j : Int))) (some (.int .i64 (IntKind.i64.wrap ((j : Int) + 1)))) none).run Tryd.prog W = .ok (.string (l.extract j (j + 1))) W := by
        intro W
        rw [show IntKind.i64.wrap ((j : Int) + 1) = (j : Int) + 1 by rw [IntKind.wrap_i64]; omega]
        rw [run_slice_string W _ l _ _ _ _ Tryd.underlying9 (by omega) (by omega) (by omega)]
        rfl
      generalize l.extract j (j + 1) = X at *
      generalize l.data.toList.getD j 0 = c at *
      have hTl := mk_list (takeP b.data.toList Sj 1).1
      have hcmp := str_ne hTl hxl
      have hcmq := str_eq hTl hxl
      unfold wstep at hnx
      generalize takeP b.data.toList Sj 1 = A at *
      obtain ⟨t, S'⟩ := A
      simp only at htk hcmp hcmq hnx
      generalize ByteArray.mk t.toArray = T at *
      have HTK := Hid.mk htk
      have HR := Hid.mk hR
      have HN := Hid.mk hnx
      clear hinv hol hnx htk hxl hTl hR
      by_cases hq : t = [c]
      · have hcm : (T.toList != X.toList) = false := by rw [hcmp, hq]; simp
        have hcn : (T.toList == X.toList) = true := by rw [hcmq, hq]; simp
        have hco : T.toList = X.toList := by simpa using hcn
        clear hcmp hcmq
        set_option maxRecDepth 100000 in
        go_wp2_with fail
        set_option maxRecDepth 100000 in
        go_region_with (go_at_call 64; refine (HTK.out _ HR.out.drew).mono ?_; rintro e w1 ⟨rfl, h1, t1⟩)
        all_goals focus
          have ht2 := hT.trans ((Tch.refl _ _).drew.trans t1)
          have HR1 := Hid.mk h1
          clear t1 h1 hT
          go_wp2_with fail
          go_roundw
          case rel => exact ⟨j + 1, by omega, by go_num, by rw [HN.out, if_pos hq]; exact HR1.out, ht2⟩
          case measure => simp [intOf]; omega
      · have hcm : (T.toList != X.toList) = true := by rw [hcmp]; simp [hq]
        have hcn : (T.toList == X.toList) = false := by rw [hcmq]; simp [hq]
        have hco : ¬ T.toList = X.toList := by simpa using hcn
        clear hcmq
        have hfl := fun W hW => fail_any g b S' F 4 W hW
        have HF := Hid.mk hfl
        clear hcmp hfl
        set_option maxRecDepth 100000 in
        go_wp2_with fail
        set_option maxRecDepth 100000 in
        go_region_with (go_at_call 64; refine (HTK.out _ HR.out.drew).mono ?_; rintro e w1 ⟨rfl, h1, t1⟩)
        all_goals focus
          have ht2 := hT.trans ((Tch.refl _ _).drew.trans t1)
          have HR1 := Hid.mk h1
          clear t1 h1 hT
          go_wp2_with fail
          refine (HF.out _ HR1.out).mono ?_
          rintro e w2 ⟨rfl, h2, t2⟩
          have ht3 := ht2.trans t2
          clear ht2 t2
          go_wp2_with fail
          go_roundw
          case rel => exact ⟨j + 1, by omega, by go_num, by rw [HN.out, if_neg hq]; exact h2, ht3⟩
          case measure => simp [intOf]; omega
    · have e : j = l.size := by omega
      subst e
      rw [List.take_of_length_le (by rw [HLL.out]; exact Nat.le_refl _)] at hR
      go_wp2_with fail
      go_end0
      exact ⟨rfl, hR, hT⟩
end Bw
end Go.Proofs.YtdhmjbnpdmneiacDoor
