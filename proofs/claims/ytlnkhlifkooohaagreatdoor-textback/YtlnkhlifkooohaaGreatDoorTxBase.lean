/- What package text stands on: the tables, numbers as texts, bounds of right messages, lines. -/
import Derived.Test.YtlnkhlifkooohaaGreatDoorTxBuild
import Derived.Test.YtlnkhlifkooohaaGreatDoorTxMath
import Derived.Test.YtlnkhlifkooohaaGreatDoorMgCheckA
import Derived.Lib.AppendIntMem
import Derived.Lib.QuietBelow
import Derived.BigQuiet
namespace Go.Proofs.YtlnkhlifkooohaaGreatDoor
open Go.ChangeShapes Go.WideShapes Go.ChangeAt Go.RowKit Go.Sort
namespace Bw
open Sm
/-- the tables that package text's calls read -/
structure TxT (w : World) : Prop where
  tab : Lib.TabIs Tryz.prog w "internal/strconv.uint64pow10" .u64 Lib.pow10Tab
  mx : ∃ m, w.cell? ⟨2, 0, none⟩ = some (.int .i64 m)
theorem TxT.kept {w w' : World} (h : TxT w) (hb : Below w.heap.size w w') : TxT w' :=
  ⟨Lib.tabBelow_of_tabIs h.tab w' hb, by obtain ⟨m, hm⟩ := h.mx; exact ⟨m, cell_kept hb hm⟩⟩
theorem itoaD (n : Int) (w : World) (h0 : -10000000000 < n) (h1 : n < 10000000000) (hT : TxT w) :
    Calls Tryz.prog 68 #[.int .i64 n] w fun e w' => e = .returned (.string (bA (Lib.itoa n))) ∧ Below w.heap.size w w' := by
  refine (Tryz.strconv_Itoa n (by omega) (by omega) w hT.tab).mono ?_
  rintro e w' ⟨rfl, k, os, rfl⟩
  exact ⟨rfl, below_regrown w (w.drawn + k) os⟩
set_option maxHeartbeats 1000000 in
theorem either_any (b : Bool) (x y : ByteArray) (w : World) :
    Calls Tryz.prog 108 #[.bool b, .string x, .string y] w fun e w' => e = .returned (.string (if b = true then x else y)) ∧ Below w.heap.size w w' := by
  cases b with
  | true =>
    rw [if_pos rfl]
    go_enter Tryz.func108, Tryz.ntmps108
    go_wp2_with fail
    go_ret
    exact ⟨rfl, Below.refl _ _⟩
  | false =>
    rw [if_neg (by simp)]
    go_enter Tryz.func108, Tryz.ntmps108
    go_wp2_with fail
    go_ret
    exact ⟨rfl, Below.refl _ _⟩
set_option maxHeartbeats 1000000 in
set_option maxRecDepth 100000 in
theorem lineOf_any (xs : List ByteArray) (g n c : Nat) (w : World) (hn : xs.length = n) (hc : n ≤ c) (hcells : ∀ (j : Nat) x, xs[j]? = some x → w.cell? ⟨g, 0 + j, none⟩ = some (.string x)) (hg : g < w.heap.size) (hlen : (Lib.join (xs.map (·.data.toList)) [32]).length ≤ 100000) (hN : n ≤ 1000) :
    Calls Tryz.prog 109 #[.slice (some ⟨g, 0, none⟩) n c] w fun e w' => e = .returned (.string (bA (lineL (xs.map (·.data.toList))))) ∧ Below w.heap.size w w' := by
  subst hn
  have HJ := Hid.mk (Tryz.strings_Join g 0 c xs ⟨#[32]⟩ w hcells hg (by omega) hc (by show (Lib.join (xs.map (·.data.toList)) [32]).length ≤ _; omega))
  have HV : Hid (bA (lineL (xs.map (·.data.toList))) = (⟨(Lib.join (xs.map (·.data.toList)) [32]).toArray⟩ : ByteArray) ++ ⟨#[10]⟩) := Hid.mk (by
    show bA (Lib.join (xs.map (·.data.toList)) [32] ++ [10]) = bA (Lib.join (xs.map (·.data.toList)) [32]) ++ bA [10]
    rw [bA_add])
  have HJ2 : Hid (Calls Tryz.prog 149 #[.slice (some ⟨g, 0, none⟩) xs.length c, .string ⟨#[32]⟩] w fun e w' => e = .returned (.string ⟨(Lib.join (xs.map (·.data.toList)) [32]).toArray⟩) ∧ Below w.heap.size w w') := HJ
  obtain ⟨X, hX⟩ : ∃ X : ByteArray, X = ⟨(Lib.join (xs.map (·.data.toList)) [32]).toArray⟩ := ⟨_, rfl⟩
  have hXs : X.size ≤ 100000 := by rw [hX]; show (bA _).size ≤ _; rw [bA_size]; exact hlen
  rw [← hX] at HJ2 HV
  clear hX hcells hlen HJ hg hc hN
  generalize bA (lineL (xs.map (·.data.toList))) = R at *
  generalize xs.length = n at *
  go_enter Tryz.func109, Tryz.ntmps109
  go_wp2_with fail
  refine HJ2.out.mono ?_
  rintro e w1 ⟨rfl, hb1⟩
  go_wp2_with fail
  go_ret
  exact ⟨by rw [HV.out]; rfl, hb1⟩
/-- a signal's bounds -/
structure SB (s : Sig) : Prop where
  nm : nameB s.nm.data.toList = true
  st0 : 0 ≤ s.st
  st1 : s.st ≤ 10000
  sz0 : 1 ≤ s.sz
  sz1 : s.sz ≤ 40
  mu0 : -1000000 ≤ s.mu
  mu1 : s.mu ≤ 1000000
  di0 : 1 ≤ s.di
  di1 : s.di ≤ 1000000
  ad0 : -1000000 ≤ s.ad
  ad1 : s.ad ≤ 1000000
  ky0 : -1 ≤ s.ky
  ky1 : s.ky ≤ 255
theorem sb_of {s : Sig} {n : Nat} (h : chkS s n = 0) : SB s := by
  obtain ⟨h1, ⟨h2, h2'⟩, h3, h4, h5⟩ := chk_size h
  unfold numB at h3
  simp only [Bool.and_eq_true, inB_iff, Bool.not_eq_true', beq_eq_false_iff_ne] at h3
  obtain ⟨⟨a1, a2⟩, a3, ⟨a4, a5⟩, ⟨a6, a7⟩, ⟨a8, a9⟩, ⟨a10, a11⟩⟩ := h3
  obtain ⟨st, sz, hR⟩ := right_of h
  have hst : s.st ≤ 10000 := by
    unfold fsI at h5
    split at h5
    · unfold flipI at h5; omega
    · omega
  exact ⟨h1, by rw [hR.hst]; omega, hst, a1, a2, a4, a5, a6, a7, a8, a9, a10, a11⟩
theorem nm_len {l : List UInt8} (h : nameB l = true) : 1 ≤ l.length ∧ l.length ≤ 16 := by
  unfold nameB at h
  rw [Bool.and_eq_true, Bool.and_eq_true, Bool.and_eq_true] at h
  exact ⟨by simpa using h.1.1.1, by simpa using h.1.1.2⟩
/-- a message's bounds -/
structure MB (m : Msg) : Prop where
  nm : nameB m.nm.data.toList = true
  id0 : 0 ≤ m.id
  id1 : m.id ≤ 536870911
  sz0 : 0 ≤ m.size
  sz1 : m.size ≤ 8
  many : m.sigs.length ≤ 16
  sb : ∀ s ∈ m.sigs, SB s
  ch0 : -1 ≤ m.ch
  ch1 : m.ch < (m.sigs.length : Int)
theorem mb_of {m : Msg} (hO : OkM m) : MB m := by
  have hf := hO.fr
  unfold frEn at hf
  split at hf
  · omega
  · rename_i h1
    have h2 : topI m.lo ≤ 536870911 := by unfold topI; split <;> omega
    refine ⟨hO.name, by omega, by omega, hO.size0, hO.size8, hO.many, fun s hs => ?_, hO.ch0, hO.ch1⟩
    obtain ⟨i, hi, rfl⟩ := List.getElem_of_mem hs
    have h3 := hO.sig hi
    unfold Msg.at at h3
    rw [getD_at hi] at h3
    have h4 := hO.size0
    obtain ⟨n, hn⟩ : ∃ n : Nat, m.size = n := ⟨m.size.toNat, by omega⟩
    rw [hn] at h3
    exact sb_of h3
theorem chL_len {m : Msg} (h : MB m) : 1 ≤ (chL m).length ∧ (chL m).length ≤ 16 := by
  unfold chL
  split
  · have h1 := h.ch1
    exact nm_len (h.sb _ (m.mem (by omega))).nm
  · simp
theorem wordsM_len {m : Msg} (h : MB m) : (Lib.join (wordsM m) [32]).length ≤ 100 := by
  unfold wordsM
  rw [Lib.join_length]
  have h1 := nm_len h.nm
  have h2 := itoa_len (n := m.id) (by have := h.id0; omega) (by have := h.id1; omega)
  have h3 := itoa_len (n := m.size) (by have := h.sz0; omega) (by have := h.sz1; omega)
  have h4 := chL_len h
  have h5 : (lxL m).length ≤ 12 := by unfold lxL; rw [List.length_append]; split <;> simp <;> omega
  simp only [Lib.lens, List.map_cons, List.map_nil, List.sum_cons, List.sum_nil, List.length_cons, List.length_nil]
  omega
theorem kyT_len {s : Sig} (h : SB s) : 1 ≤ (kyT s).length ∧ (kyT s).length ≤ 11 := by
  unfold kyT
  split
  · exact ⟨itoa_pos _, itoa_len (by have := h.ky0; omega) (by have := h.ky1; omega)⟩
  · simp
theorem wordsS_len {s : Sig} (h : SB s) : (Lib.join (wordsS s) [32]).length ≤ 120 := by
  unfold wordsS
  rw [Lib.join_length]
  have h1 := nm_len h.nm
  have h2 := itoa_len (n := s.st) (by have := h.st0; omega) (by have := h.st1; omega)
  have h3 := itoa_len (n := s.sz) (by have := h.sz0; omega) (by have := h.sz1; omega)
  have h4 := itoa_len (n := s.mu) (by have := h.mu0; omega) (by have := h.mu1; omega)
  have h5 := itoa_len (n := s.di) (by have := h.di0; omega) (by have := h.di1; omega)
  have h6 := itoa_len (n := s.ad) (by have := h.ad0; omega) (by have := h.ad1; omega)
  have h7 := kyT_len h
  have h8 : (plL s).length ≤ 25 := by
    unfold plL bkL sgL
    simp only [List.length_append, List.length_cons, List.length_nil]
    split <;> split <;> simp <;> omega
  have h9 : (faL s).length ≤ 23 := by unfold faL; simp only [List.length_append, List.length_cons, List.length_nil]; omega
  simp only [Lib.lens, List.map_cons, List.map_nil, List.sum_cons, List.sum_nil, List.length_cons, List.length_nil]
  omega
theorem lineM_len {m : Msg} (h : MB m) : (lineL (wordsM m)).length ≤ 101 := by unfold lineL; have := wordsM_len h; simp only [List.length_append, List.length_cons, List.length_nil]; omega
theorem lineS_len {s : Sig} (h : SB s) : (lineL (wordsS s)).length ≤ 121 := by unfold lineL; have := wordsS_len h; simp only [List.length_append, List.length_cons, List.length_nil]; omega
theorem sigsT_len : ∀ {l : List Sig}, (∀ s ∈ l, SB s) → (sigsT l).length ≤ 121 * l.length
  | [], _ => by simp [sigsT]
  | s :: l, h => by
    have h1 := lineS_len (h s (by simp))
    have h2 := sigsT_len (l := l) (fun x hx => h x (by simp [hx]))
    rw [show sigsT (s :: l) = lineL (wordsS s) ++ sigsT l by simp [sigsT], List.length_append, List.length_cons]
    omega
theorem msgT_len {m : Msg} (h : MB m) : (msgT m).length ≤ 2100 := by
  unfold msgT
  have h1 := lineM_len h
  have h2 := sigsT_len h.sb
  have h3 := h.many
  rw [List.length_append]
  omega
theorem textT_len : ∀ {l : List Msg}, (∀ m ∈ l, MB m) → (textT l).length ≤ 2100 * l.length
  | [], _ => by simp [textT]
  | m :: l, h => by
    have h1 := msgT_len (h m (by simp))
    have h2 := textT_len (l := l) (fun x hx => h x (by simp [hx]))
    rw [show textT (m :: l) = msgT m ++ textT l by simp [textT], List.length_append, List.length_cons]
    omega
end Bw
end Go.Proofs.YtlnkhlifkooohaaGreatDoor
