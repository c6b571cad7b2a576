/- What package text stands on: the tables, numbers as texts, bounds of right messages, lines. -/
import Derived.Test.YtlnkhlifkooohaaGreatDoorChecked
import Derived.Test.YtlnkhlifkooohaaGreatDoorShelfTx
import Derived.Test.YtlnkhlifkooohaaGreatDoorBase8
import Derived.Test.YtlnkhlifkooohaaGreatDoorMsgMath
import Derived.Lib.Join
import Derived.Lib.ItoaNum
import Derived.Test.YtlnkhlifkooohaaGreatDoorMgCheckA
import Derived.Lib.AppendIntMem
import Derived.Lib.QuietBelow
import Derived.BigQuiet
namespace Go.Proofs.YtlnkhlifkooohaaGreatDoor
open Go.ChangeShapes Go.WideShapes Go.ChangeAt Go.RowKit
namespace Bw
/-- but for block b, and for rows of bytes, all is as it was -/
def OK5 (b : Nat) (w w' : World) : Prop := ∀ k cs t fr, w.heap[k]? = some (.cells cs t fr) → t ≠ 5 → k ≠ b → w'.heap[k]? = w.heap[k]?
theorem sz_bld : (Tryz.prog.info? 103).map (·.size) = some 2 := by kernel_rfl
theorem info_u8T : (Tryz.prog.info? 5).map (fun i => (i.zero, i.size, i.bytes)) = some (some (.int .u8 0), 1, 1) := by kernel_rfl
set_option maxHeartbeats 1000000 in
set_option maxRecDepth 100000 in
theorem cpy_used (b : Nat) (w : World) (h0 : w.cell? ⟨b, 0, none⟩ = some (.pointer (some ⟨b, 0, none⟩))) :
    Calls Tryz.prog 107 #[.pointer (some ⟨b, 0, none⟩)] w fun e w' => e = .returned (.tuple #[]) ∧ w' = w := by
  obtain ⟨j, hj, _⟩ := Option.map_eq_some_iff.1 sz_bld
  go_enter Tryz.func107, Tryz.ntmps107
  go_wp2
  rw [Lib.run_neq_ptr_same w _ Tryz.underlying101 hj]
  go_wp2
  go_end0
  exact ⟨rfl, rfl⟩
set_option maxHeartbeats 1000000 in
set_option maxRecDepth 100000 in
theorem cpy_fresh (b : Nat) (w : World) (h0 : w.cell? ⟨b, 0, none⟩ = some (.pointer none)) (hsh : w.shape? b = some (103, 2)) (hfz : w.frozen? ⟨b, 0, none⟩ = false) :
    Calls Tryz.prog 107 #[.pointer (some ⟨b, 0, none⟩)] w fun e w' => e = .returned (.tuple #[]) ∧ w' = w.setCell ⟨b, 0, none⟩ (.pointer (some ⟨b, 0, none⟩)) := by
  obtain ⟨j, hj, hjs⟩ := Option.map_eq_some_iff.1 sz_bld
  go_enter Tryz.func107, Tryz.ntmps107
  go_wp2
  rw [Lib.run_to_unsafe w ⟨b, 0, none⟩ Tryz.underlying101 Tryz.underlying182 hj (by rw [hjs]; decide) hsh (Nat.zero_lt_succ 1)]
  simp only [Result.andThen]
  rw [Oper.upon_value]
  go_wp2
  rw [run_callFunc_extern Tryz.func148 (by kernel_rfl) (by kernel_rfl) (by kernel_rfl) (e := Extern.AbiNoEscape.same) (by kernel_rfl)]
  rw [Lib.run_noEscape]
  simp only [Result.andThen]
  rw [Oper.upon_value]
  go_wp2
  rw [Lib.run_from_unsafe w ⟨b, 0, none⟩ Tryz.underlying182 Tryz.underlying101 hj hsh (by kernel_rfl)]
  simp only [Result.andThen]
  rw [Oper.upon_value]
  go_wp2
  go_end0
  exact ⟨rfl, rfl⟩
theorem cpy_any (B b : Nat) (bs : List Value) (w : World) (h : Lib.IsBuilder 103 5 B b bs w) :
    Calls Tryz.prog 107 #[.pointer (some ⟨b, 0, none⟩)] w fun e w' => e = .returned (.tuple #[]) ∧ Hid (Lib.BuilderAt 103 5 B b (.pointer (some ⟨b, 0, none⟩)) bs w') ∧ Hid (Below B w w') ∧ Hid (OK5 b w w') := by
  rcases h with h | h
  · refine (cpy_fresh b w h.cell0 h.shape h.frozen0).mono ?_
    rintro e w' ⟨rfl, rfl⟩
    exact ⟨rfl, Hid.mk (h.used _), Hid.mk ((Below.refl B w).setCell (p := ⟨b, 0, none⟩) h.1 _), Hid.mk (fun k _ _ _ _ _ hk => heap_setCell_other w ⟨b, 0, none⟩ k _ hk)⟩
  · refine (cpy_used b w h.cell0).mono ?_
    rintro e w' ⟨rfl, rfl⟩
    exact ⟨rfl, Hid.mk h, Hid.mk (Below.refl B _), Hid.mk (fun _ _ _ _ _ _ _ => rfl)⟩
set_option maxHeartbeats 2000000 in
set_option maxRecDepth 100000 in
theorem bwrite_any (B b : Nat) (bs : List Value) (s : ByteArray) (w : World) (h : Lib.IsBuilder 103 5 B b bs w) (hlen : bs.length + s.size ≤ 100000) (hBw : B ≤ w.heap.size) :
    Calls Tryz.prog 63 #[.pointer (some ⟨b, 0, none⟩), .string s] w fun e w' => e = .returned (.tuple #[.int .i64 s.size, .nilIface]) ∧ Hid (Lib.IsBuilder 103 5 B b (bs ++ Lib.strCells s) w') ∧ Hid (Below B w w') ∧ Hid (OK5 b w w') := by
  obtain ⟨i0, hi, hz0, hz1, hz2⟩ := info_parts info_u8T
  have HC := Hid.mk (cpy_any B b bs w h)
  clear h
  go_enter Tryz.func63, Tryz.ntmps63
  go_wp2_with fail
  refine HC.out.mono ?_
  rintro e w1 ⟨rfl, H1, HB1, HO1⟩
  obtain ⟨hB, v, hbk, hown, hne⟩ := H1.out
  have c0 := cell_of_row _ _ 0 _ _ _ hbk
  have c1 := cell_of_row _ _ 1 _ _ _ hbk
  simp only [List.getElem?_toArray, List.getElem?_cons_zero, List.getElem?_cons_succ] at c0 c1
  have hlt : b < w1.heap.size := lt_of_block hbk
  have hsz := HB1.out.size
  go_wp2_with (at_builtin; refine Lib.wpList_append_own_string _ rfl _ _ 26 9 rfl B 5 i0 Tryz.underlying26 Tryz.underlying9 hi hz0 hz1 hz2 _ _ _ rfl hown s rfl (by unfold maxLen; omega) (by omega) (by omega) ?_; intro v' w2 hown' hgrow _; have hb2 := (hgrow.block b hlt (fun e => hne e.symm)).trans hbk; have d1 := cell_of_row _ _ 1 _ _ _ hb2; have f1 := frozen_of_row _ _ 1 _ _ hb2; simp only [List.getElem?_toArray, List.getElem?_cons_zero, List.getElem?_cons_succ] at d1; obtain ⟨ao, n', cap, rfl⟩ : ∃ ao n' cap, v' = .slice ao n' cap := (by
      rcases hown'.2 with ⟨hv, _⟩ | ⟨g, cap, cur, hv, _⟩
      · exact ⟨_, _, _, hv⟩
      · exact ⟨_, _, _, hv⟩))
  go_ret2
  refine ⟨rfl, Hid.mk (.inr ?_), Hid.mk ?_, Hid.mk ?_⟩
  · exact Lib.BuilderAt.put (T := 103) (e := 5) hB hb2 (bs' := bs ++ Lib.strCells s) (by simpa [Lib.strCells_length] using hown') (by decide)
  · exact (HB1.out.grown hgrow (by have := HB1.out.size; omega) (fun k hk => (hown.lt k hk).1)).setCell (p := ⟨b, 1, none⟩) hB _
  · intro k cs t fr hk ht hkb
    have h1 := HO1.out k cs t fr hk ht hkb
    have hk1 := h1.trans hk
    have h2 : w2.heap[k]? = w1.heap[k]? := hgrow.block k (lt_of_block hk1) (fun e => by
      rcases hown.2 with ⟨hv, _⟩ | ⟨g, cap', cur, hv, _, hg, _⟩
      · rw [hv] at e; cases e
      · rw [hv] at e
        have e1 : some k = some g := e
        have e2 : k = g := Option.some.inj e1
        rw [e2, hg] at hk1
        injection hk1 with h3
        injection h3 with _ h4 _
        exact ht h4.symm)
    exact ((heap_setCell_other w2 ⟨b, 1, none⟩ k _ hkb).trans h2).trans h1
/-- a builder stands where all is as it was -/
theorem bld_kept {B b : Nat} {bs : List Value} {w w' : World} (h : Lib.IsBuilder 103 5 B b bs w) (hb : Below w.heap.size w w') : Lib.IsBuilder 103 5 B b bs w' := by
  have key : ∀ p, Lib.BuilderAt 103 5 B b p bs w → Lib.BuilderAt 103 5 B b p bs w' := fun p ⟨h1, v, h2, h3, h4⟩ => ⟨h1, v, (hb.block b (lt_of_block h2)).trans h2, by
    obtain ⟨g1, g2⟩ := h3
    refine ⟨g1, ?_⟩
    rcases g2 with g2 | ⟨g, cap, cur, hv, hg, hh, r⟩
    · exact .inl g2
    · exact .inr ⟨g, cap, cur, hv, hg, (hb.block g (lt_of_block hh)).trans hh, r⟩, h4⟩
  rcases h with h | h
  · exact .inl (key _ h)
  · exact .inr (key _ h)
theorem str_bytes (l : List UInt8) : Lib.strCells ⟨l.toArray⟩ = Lib.byteCells l := by simp [Lib.strCells, Lib.byteCells]
theorem bytes_app (a b : List UInt8) : Lib.byteCells (a ++ b) = Lib.byteCells a ++ Lib.byteCells b := by simp [Lib.byteCells]
theorem bytes_len (a : List UInt8) : (Lib.byteCells a).length = a.length := by simp [Lib.byteCells]
end Bw
end Go.Proofs.YtlnkhlifkooohaaGreatDoor
namespace Go.Proofs.YtlnkhlifkooohaaGreatDoor
open Go.ChangeShapes Go.WideShapes Go.ChangeAt Go.RowKit
namespace Bw
open Sm
/-- bytes as a text -/
def bA (l : List UInt8) : ByteArray := ⟨l.toArray⟩
theorem bA_list (l : List UInt8) : (bA l).data.toList = l := by simp [bA]
theorem bA_of (b : ByteArray) : bA b.data.toList = b := by cases b; simp [bA]
theorem bA_size (l : List UInt8) : (bA l).size = l.length := by simp [bA, ByteArray.size]
theorem bA_add (a b : List UInt8) : bA a ++ bA b = bA (a ++ b) := by
  apply ByteArray.ext
  simp [bA]
theorem bA_inj {a b : List UInt8} (h : bA a = bA b) : a = b := by rw [← bA_list a, h, bA_list]
def lxL (m : Msg) : List UInt8 := Lib.itoa m.id ++ (if m.lo = true then [120] else [])
def chL (m : Msg) : List UInt8 := if 0 ≤ m.ch then (m.at m.ch.toNat).nm.data.toList else [45]
/-- the words of a message's line -/
def wordsM (m : Msg) : List (List UInt8) := [[109, 101, 115, 115, 97, 103, 101], m.nm.data.toList, lxL m, Lib.itoa m.size, chL m]
def bkL (s : Sig) : List UInt8 := if s.bk = true then [62] else [60]
def sgL (s : Sig) : List UInt8 := if s.sg = true then [45] else [43]
def plL (s : Sig) : List UInt8 := Lib.itoa s.st ++ [58] ++ Lib.itoa s.sz ++ bkL s ++ sgL s
def faL (s : Sig) : List UInt8 := Lib.itoa s.mu ++ [47] ++ Lib.itoa s.di
def kyT (s : Sig) : List UInt8 := if 0 ≤ s.ky then Lib.itoa s.ky else [45]
/-- the words of a signal's line -/
def wordsS (s : Sig) : List (List UInt8) := [[115, 105, 103, 110, 97, 108], s.nm.data.toList, plL s, faL s, Lib.itoa s.ad, kyT s]
def lineL (ws : List (List UInt8)) : List UInt8 := Lib.join ws [32] ++ [10]
def sigsT (l : List Sig) : List UInt8 := l.flatMap fun s => lineL (wordsS s)
def msgT (m : Msg) : List UInt8 := lineL (wordsM m) ++ sigsT m.sigs
/-- the text of messages -/
def textT (l : List Msg) : List UInt8 := l.flatMap msgT
theorem sigsT_snoc (l : List Sig) (s : Sig) : sigsT (l ++ [s]) = sigsT l ++ lineL (wordsS s) := by simp [sigsT]
theorem textT_snoc (l : List Msg) (m : Msg) : textT (l ++ [m]) = textT l ++ msgT m := by simp [textT]
theorem nDig_le : ∀ (k u : Nat), u < 10 ^ k → 0 < k → Lib.nDigits u ≤ k
  | 0, u, _, hk => absurd hk (Nat.lt_irrefl _)
  | k + 1, u, h, _ => by
    by_cases h10 : u < 10
    · rw [Lib.nDigits_small h10]; omega
    · rw [Lib.nDigits_big h10]
      have h2 : u / 10 < 10 ^ k := by rw [Nat.pow_succ] at h; omega
      have h3 : 0 < k := by
        rcases Nat.eq_zero_or_pos k with e | e
        · subst e; simp at h2; omega
        · exact e
      have := nDig_le k (u / 10) h2 h3
      omega
/-- a number of at most ten digits -/
theorem itoa_len {n : Int} (h0 : -10000000000 < n) (h1 : n < 10000000000) : (Lib.itoa n).length ≤ 11 := by
  unfold Lib.itoa
  split
  · rw [List.length_cons, Lib.decDigits_length]
    have := nDig_le 10 n.natAbs (by omega) (by omega)
    omega
  · rw [Lib.decDigits_length]
    have := nDig_le 10 n.toNat (by omega) (by omega)
    omega
theorem itoa_pos (n : Int) : 1 ≤ (Lib.itoa n).length := by
  unfold Lib.itoa
  split
  · simp
  · rw [Lib.decDigits_length]; exact Lib.nDigits_pos _
end Bw
end Go.Proofs.YtlnkhlifkooohaaGreatDoor
namespace Go.Proofs.YtlnkhlifkooohaaGreatDoor
open Go.ChangeShapes Go.WideShapes Go.ChangeAt Go.RowKit Go.Sort
namespace Bw
open Sm
/-- the tables that package text's calls read -/
structure TxT (w : World) : Prop where
  tab : Lib.TabIs Tryz.prog w "internal/strconv.uint64pow10" .u64 Lib.pow10Tab
  mx : ∃ m, w.cell? ⟨2, 0, none⟩ = some (.int .i64 m)
theorem TxT.kept {w w' : World} (h : TxT w) (hb : Below w.heap.size w w') : TxT w' :=
  ⟨Lib.tabBelow_of_tabIs h.tab w' hb, by obtain ⟨m, hm⟩ := h.mx; exact ⟨m, cell_kept hb hm⟩⟩
theorem itoaD (n : Int) (w : World) (h0 : -10000000000 < n) (h1 : n < 10000000000) (hT : TxT w) :
    Calls Tryz.prog 68 #[.int .i64 n] w fun e w' => e = .returned (.string (bA (Lib.itoa n))) ∧ Below w.heap.size w w' := by
  refine (Tryz.strconv_Itoa n (by omega) (by omega) w hT.tab).mono ?_
  rintro e w' ⟨rfl, k, os, rfl⟩
  exact ⟨rfl, below_regrown w (w.drawn + k) os⟩
set_option maxHeartbeats 1000000 in
theorem either_any (b : Bool) (x y : ByteArray) (w : World) :
    Calls Tryz.prog 108 #[.bool b, .string x, .string y] w fun e w' => e = .returned (.string (if b = true then x else y)) ∧ Below w.heap.size w w' := by
  cases b with
  | true =>
    rw [if_pos rfl]
    go_enter Tryz.func108, Tryz.ntmps108
    go_wp2_with fail
    go_ret
    exact ⟨rfl, Below.refl _ _⟩
  | false =>
    rw [if_neg (by simp)]
    go_enter Tryz.func108, Tryz.ntmps108
    go_wp2_with fail
    go_ret
    exact ⟨rfl, Below.refl _ _⟩
set_option maxHeartbeats 1000000 in
set_option maxRecDepth 100000 in
theorem lineOf_any (xs : List ByteArray) (g n c : Nat) (w : World) (hn : xs.length = n) (hc : n ≤ c) (hcells : ∀ (j : Nat) x, xs[j]? = some x → w.cell? ⟨g, 0 + j, none⟩ = some (.string x)) (hg : g < w.heap.size) (hlen : (Lib.join (xs.map (·.data.toList)) [32]).length ≤ 100000) (hN : n ≤ 1000) :
    Calls Tryz.prog 109 #[.slice (some ⟨g, 0, none⟩) n c] w fun e w' => e = .returned (.string (bA (lineL (xs.map (·.data.toList))))) ∧ Below w.heap.size w w' := by
  subst hn
  have HJ := Hid.mk (Tryz.strings_Join g 0 c xs ⟨#[32]⟩ w hcells hg (by omega) hc (by show (Lib.join (xs.map (·.data.toList)) [32]).length ≤ _; omega))
  have HV : Hid (bA (lineL (xs.map (·.data.toList))) = (⟨(Lib.join (xs.map (·.data.toList)) [32]).toArray⟩ : ByteArray) ++ ⟨#[10]⟩) := Hid.mk (by
    show bA (Lib.join (xs.map (·.data.toList)) [32] ++ [10]) = bA (Lib.join (xs.map (·.data.toList)) [32]) ++ bA [10]
    rw [bA_add])
  have HJ2 : Hid (Calls Tryz.prog 149 #[.slice (some ⟨g, 0, none⟩) xs.length c, .string ⟨#[32]⟩] w fun e w' => e = .returned (.string ⟨(Lib.join (xs.map (·.data.toList)) [32]).toArray⟩) ∧ Below w.heap.size w w') := HJ
  obtain ⟨X, hX⟩ : ∃ X : ByteArray, X = ⟨(Lib.join (xs.map (·.data.toList)) [32]).toArray⟩ := ⟨_, rfl⟩
  have hXs : X.size ≤ 100000 := by rw [hX]; show (bA _).size ≤ _; rw [bA_size]; exact hlen
  rw [← hX] at HJ2 HV
  clear hX hcells hlen HJ hg hc hN
  generalize bA (lineL (xs.map (·.data.toList))) = R at *
  generalize xs.length = n at *
  go_enter Tryz.func109, Tryz.ntmps109
  go_wp2_with fail
  refine HJ2.out.mono ?_
  rintro e w1 ⟨rfl, hb1⟩
  go_wp2_with fail
  go_ret
  exact ⟨by rw [HV.out]; rfl, hb1⟩
/-- a signal's bounds -/
structure SB (s : Sig) : Prop where
  nm : nameB s.nm.data.toList = true
  st0 : 0 ≤ s.st
  st1 : s.st ≤ 10000
  sz0 : 1 ≤ s.sz
  sz1 : s.sz ≤ 40
  mu0 : -1000000 ≤ s.mu
  mu1 : s.mu ≤ 1000000
  di0 : 1 ≤ s.di
  di1 : s.di ≤ 1000000
  ad0 : -1000000 ≤ s.ad
  ad1 : s.ad ≤ 1000000
  ky0 : -1 ≤ s.ky
  ky1 : s.ky ≤ 255
theorem sb_of {s : Sig} {n : Nat} (h : chkS s n = 0) : SB s := by
  obtain ⟨h1, ⟨h2, h2'⟩, h3, h4, h5⟩ := chk_size h
  unfold numB at h3
  simp only [Bool.and_eq_true, inB_iff, Bool.not_eq_true', beq_eq_false_iff_ne] at h3
  obtain ⟨⟨a1, a2⟩, a3, ⟨a4, a5⟩, ⟨a6, a7⟩, ⟨a8, a9⟩, ⟨a10, a11⟩⟩ := h3
  obtain ⟨st, sz, hR⟩ := right_of h
  have hst : s.st ≤ 10000 := by
    unfold fsI at h5
    split at h5
    · unfold flipI at h5; omega
    · omega
  exact ⟨h1, by rw [hR.hst]; omega, hst, a1, a2, a4, a5, a6, a7, a8, a9, a10, a11⟩
theorem nm_len {l : List UInt8} (h : nameB l = true) : 1 ≤ l.length ∧ l.length ≤ 16 := by
  unfold nameB at h
  rw [Bool.and_eq_true, Bool.and_eq_true, Bool.and_eq_true] at h
  exact ⟨by simpa using h.1.1.1, by simpa using h.1.1.2⟩
/-- a message's bounds -/
structure MB (m : Msg) : Prop where
  nm : nameB m.nm.data.toList = true
  id0 : 0 ≤ m.id
  id1 : m.id ≤ 536870911
  sz0 : 0 ≤ m.size
  sz1 : m.size ≤ 8
  many : m.sigs.length ≤ 16
  sb : ∀ s ∈ m.sigs, SB s
  ch0 : -1 ≤ m.ch
  ch1 : m.ch < (m.sigs.length : Int)
theorem mb_of {m : Msg} (hO : OkM m) : MB m := by
  have hf := hO.fr
  unfold frEn at hf
  split at hf
  · omega
  · rename_i h1
    have h2 : topI m.lo ≤ 536870911 := by unfold topI; split <;> omega
    refine ⟨hO.name, by omega, by omega, hO.size0, hO.size8, hO.many, fun s hs => ?_, hO.ch0, hO.ch1⟩
    obtain ⟨i, hi, rfl⟩ := List.getElem_of_mem hs
    have h3 := hO.sig hi
    unfold Msg.at at h3
    rw [getD_at hi] at h3
    have h4 := hO.size0
    obtain ⟨n, hn⟩ : ∃ n : Nat, m.size = n := ⟨m.size.toNat, by omega⟩
    rw [hn] at h3
    exact sb_of h3
theorem chL_len {m : Msg} (h : MB m) : 1 ≤ (chL m).length ∧ (chL m).length ≤ 16 := by
  unfold chL
  split
  · have h1 := h.ch1
    exact nm_len (h.sb _ (m.mem (by omega))).nm
  · simp
theorem wordsM_len {m : Msg} (h : MB m) : (Lib.join (wordsM m) [32]).length ≤ 100 := by
  unfold wordsM
  rw [Lib.join_length]
  have h1 := nm_len h.nm
  have h2 := itoa_len (n := m.id) (by have := h.id0; omega) (by have := h.id1; omega)
  have h3 := itoa_len (n := m.size) (by have := h.sz0; omega) (by have := h.sz1; omega)
  have h4 := chL_len h
  have h5 : (lxL m).length ≤ 12 := by unfold lxL; rw [List.length_append]; split <;> simp <;> omega
  simp only [Lib.lens, List.map_cons, List.map_nil, List.sum_cons, List.sum_nil, List.length_cons, List.length_nil]
  omega
theorem kyT_len {s : Sig} (h : SB s) : 1 ≤ (kyT s).length ∧ (kyT s).length ≤ 11 := by
  unfold kyT
  split
  · exact ⟨itoa_pos _, itoa_len (by have := h.ky0; omega) (by have := h.ky1; omega)⟩
  · simp
theorem wordsS_len {s : Sig} (h : SB s) : (Lib.join (wordsS s) [32]).length ≤ 120 := by
  unfold wordsS
  rw [Lib.join_length]
  have h1 := nm_len h.nm
  have h2 := itoa_len (n := s.st) (by have := h.st0; omega) (by have := h.st1; omega)
  have h3 := itoa_len (n := s.sz) (by have := h.sz0; omega) (by have := h.sz1; omega)
  have h4 := itoa_len (n := s.mu) (by have := h.mu0; omega) (by have := h.mu1; omega)
  have h5 := itoa_len (n := s.di) (by have := h.di0; omega) (by have := h.di1; omega)
  have h6 := itoa_len (n := s.ad) (by have := h.ad0; omega) (by have := h.ad1; omega)
  have h7 := kyT_len h
  have h8 : (plL s).length ≤ 25 := by
    unfold plL bkL sgL
    simp only [List.length_append, List.length_cons, List.length_nil]
    split <;> split <;> simp <;> omega
  have h9 : (faL s).length ≤ 23 := by unfold faL; simp only [List.length_append, List.length_cons, List.length_nil]; omega
  simp only [Lib.lens, List.map_cons, List.map_nil, List.sum_cons, List.sum_nil, List.length_cons, List.length_nil]
  omega
theorem lineM_len {m : Msg} (h : MB m) : (lineL (wordsM m)).length ≤ 101 := by unfold lineL; have := wordsM_len h; simp only [List.length_append, List.length_cons, List.length_nil]; omega
theorem lineS_len {s : Sig} (h : SB s) : (lineL (wordsS s)).length ≤ 121 := by unfold lineL; have := wordsS_len h; simp only [List.length_append, List.length_cons, List.length_nil]; omega
theorem sigsT_len : ∀ {l : List Sig}, (∀ s ∈ l, SB s) → (sigsT l).length ≤ 121 * l.length
  | [], _ => by simp [sigsT]
  | s :: l, h => by
    have h1 := lineS_len (h s (by simp))
    have h2 := sigsT_len (l := l) (fun x hx => h x (by simp [hx]))
    rw [show sigsT (s :: l) = lineL (wordsS s) ++ sigsT l by simp [sigsT], List.length_append, List.length_cons]
    omega
theorem msgT_len {m : Msg} (h : MB m) : (msgT m).length ≤ 2100 := by
  unfold msgT
  have h1 := lineM_len h
  have h2 := sigsT_len h.sb
  have h3 := h.many
  rw [List.length_append]
  omega
theorem textT_len : ∀ {l : List Msg}, (∀ m ∈ l, MB m) → (textT l).length ≤ 2100 * l.length
  | [], _ => by simp [textT]
  | m :: l, h => by
    have h1 := msgT_len (h m (by simp))
    have h2 := textT_len (l := l) (fun x hx => h x (by simp [hx]))
    rw [show textT (m :: l) = msgT m ++ textT l by simp [textT], List.length_append, List.length_cons]
    omega
end Bw
end Go.Proofs.YtlnkhlifkooohaaGreatDoor
