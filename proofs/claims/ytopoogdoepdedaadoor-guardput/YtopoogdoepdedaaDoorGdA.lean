/- The closed fact that the laws on guards ask first: one that is good. -/
import Derived.Test.YtopoogdoepdedaaDoorSumRow
import Derived.Test.YtopoogdoepdedaaDoorCrcSees
import Derived.Test.YtopoogdoepdedaaDoorEqualB
import Derived.Lib.SliceRun
import Derived.Test.YtopoogdoepdedaaDoorCheckSm
import Derived.Test.YtopoogdoepdedaaDoorBitsOf
import Derived.Test.YtopoogdoepdedaaDoorBitsNumber
import Derived.Lib.QuietBelow
import Derived.BigQuiet
namespace Go.Proofs.YtopoogdoepdedaaDoor
open Go.ChangeShapes Go.WideShapes Go.ChangeAt Go.RowKit
namespace Bw
open Bm Cm
/-- the bits of a key's two bytes and of the data's bytes but the first -/
def gRow (key : Nat) (l : List UInt8) : List UInt8 := bitsHead key 16 16 ++ ofL (l.drop 1)
/-- the sum of them -/
def gSum (key : Nat) (l : List UInt8) : Nat := sumV 3 (gRow key l)
theorem gRow_row (key : Nat) (l : List UInt8) : rowB (gRow key l) = true := by
  unfold gRow
  rw [rowB_append, bitsHead_row, ofL_row]
  rfl
theorem gRow_len (key : Nat) (l : List UInt8) : (gRow key l).length = 16 + 8 * (l.length - 1) := by
  unfold gRow
  rw [List.length_append, bitsHead_length, ofL_length, List.length_drop]
theorem gSum_lt (key : Nat) (l : List UInt8) : gSum key l < 256 := sumV_lt 3 (by omega) _
theorem gSum_val (key : Nat) (l : List UInt8) : val (sumL 3 (gRow key l)) = gSum key l := sumL_val 3 (by omega) _
/-- the counter in a byte -/
def ctr (c n : Nat) : Nat := c / 16 * 16 + n
theorem ctr_lt {c n : Nat} (hc : c < 256) (hn : n < 16) : ctr c n < 256 := by unfold ctr; omega
theorem ctr_mod {c n : Nat} (hn : n < 16) : ctr c n % 16 = n := by unfold ctr; omega
/-- the data with the counter in it -/
def cntL (n : Nat) (l : List UInt8) : List UInt8 := l.set 1 (UInt8.ofNat (ctr (l.getD 1 0).toNat n))
/-- what is put in -/
def putL (key n : Nat) (l : List UInt8) : List UInt8 := (cntL n l).set 0 (UInt8.ofNat (gSum key (cntL n l)))
theorem cntL_len (n : Nat) (l : List UInt8) : (cntL n l).length = l.length := by simp [cntL]
theorem putL_len (key n : Nat) (l : List UInt8) : (putL key n l).length = l.length := by simp [putL, cntL_len]
theorem getD_set_self {l : List UInt8} {i : Nat} (h : i < l.length) (c : UInt8) : (l.set i c).getD i 0 = c := by
  simp only [List.getD, List.getElem?_set_self h, Option.getD_some]
theorem getD_set_ne {l : List UInt8} {i j : Nat} (h : i ≠ j) (c : UInt8) : (l.set i c).getD j 0 = l.getD j 0 := by
  simp only [List.getD, List.getElem?_set_ne h]
theorem ofNat_to {n : Nat} (h : n < 256) : (UInt8.ofNat n).toNat = n := UInt8.toNat_ofNat_of_lt' h
theorem drop_set0 (l : List UInt8) (c : UInt8) : (l.set 0 c).drop 1 = l.drop 1 := by cases l <;> simp
theorem gSum_set0 (key : Nat) (l : List UInt8) (c : UInt8) : gSum key (l.set 0 c) = gSum key l := by unfold gSum gRow; rw [drop_set0]
theorem cntL_at {l : List UInt8} (h : 2 ≤ l.length) {n : Nat} (hn : n < 16) : ((cntL n l).getD 1 0).toNat = ctr (l.getD 1 0).toNat n := by
  unfold cntL
  rw [getD_set_self (by omega), ofNat_to (ctr_lt (UInt8.toNat_lt _) hn)]
theorem putL_at1 {l : List UInt8} (h : 2 ≤ l.length) (key : Nat) {n : Nat} (hn : n < 16) : ((putL key n l).getD 1 0).toNat = ctr (l.getD 1 0).toNat n := by
  unfold putL
  rw [getD_set_ne (by omega), cntL_at h hn]
theorem putL_at0 {l : List UInt8} (h : 2 ≤ l.length) (key n : Nat) : ((putL key n l).getD 0 0).toNat = gSum key (putL key n l) := by
  unfold putL
  rw [getD_set_self (by rw [cntL_len]; omega), gSum_set0, ofNat_to (gSum_lt _ _)]
/-- one byte that is another one gives another sum -/
theorem sum_apart {s p f : Nat} (hs : s = 8) (hp : p < 2 ^ s) (hodd : (2 ^ s + p) % 2 = 1) (hf : f < 2 ^ s) (A B B' C : List UInt8) (hA : rowB A = true) (hB : rowB B = true) (hB' : rowB B' = true) (hC : rowB C = true) (hl : B.length = 8) (hl' : B'.length = 8)
    (h : crcR s p f (A ++ (B ++ C)) = crcR s p f (A ++ (B' ++ C))) : val B = val B' := by
  subst hs
  have r1 : rowB (A ++ (B ++ C)) = true := by rw [rowB_append, rowB_append, hA, hB, hC]; rfl
  have r2 : rowB (A ++ (B' ++ C)) = true := by rw [rowB_append, rowB_append, hA, hB', hC]; rfl
  have m1 := crc_is 8 p f (by omega) hp hf _ r1
  have m2 := crc_is 8 p f (by omega) hp hf _ r2
  rw [← h] at m2
  have m3 := m1.xor m2
  rw [xor4, Nat.xor_self, Nat.zero_xor] at m3
  have m3' : Mul (2 ^ 8 + p) (crcT 8 f (A ++ (B ++ C)) ^^^ crcT 8 f (A ++ (B' ++ C))) := m3
  unfold crcT at m3'
  have hlen : (A ++ (B ++ C)).length = (A ++ (B' ++ C)).length := by simp [hl, hl']
  rw [hlen, xor4, Nat.xor_self, Nat.xor_zero, ← shift_xor] at m3'
  have m4 := m3'.unshift hodd 8
  have e1 : val (A ++ (B ++ C)) = val A * 2 ^ (8 + C.length) ^^^ (val B * 2 ^ C.length ^^^ val C) := by
    have hb : val (B ++ C) < 2 ^ (8 + C.length) := by
      have := val_lt (B ++ C) (by rw [rowB_append, hB, hC]; rfl)
      rw [List.length_append, hl] at this
      exact this
    rw [val_append, List.length_append, hl, hi_xor _ _ _ hb, val_append, hi_xor _ _ _ (val_lt C hC)]
  have e2 : val (A ++ (B' ++ C)) = val A * 2 ^ (8 + C.length) ^^^ (val B' * 2 ^ C.length ^^^ val C) := by
    have hb : val (B' ++ C) < 2 ^ (8 + C.length) := by
      have := val_lt (B' ++ C) (by rw [rowB_append, hB', hC]; rfl)
      rw [List.length_append, hl'] at this
      exact this
    rw [val_append, List.length_append, hl', hi_xor _ _ _ hb, val_append, hi_xor _ _ _ (val_lt C hC)]
  rw [e1, e2, xor4, Nat.xor_self, Nat.zero_xor, xor4, Nat.xor_self, Nat.xor_zero, ← shift_xor] at m4
  have m5 := m4.unshift hodd C.length
  have b1 := val_lt B hB
  have b2 := val_lt B' hB'
  rw [hl] at b1
  rw [hl'] at b2
  exact m5.uniq (s := 8) (by omega) (by rw [Nat.pow_succ]; omega) b1 b2
theorem ofL_split (l : List UInt8) (i : Nat) (h : i < l.length) : ofL l = ofL (l.take i) ++ (bitsHead (l.getD i 0).toNat 8 8 ++ ofL (l.drop (i + 1))) := by
  have e : l = l.take i ++ (l.getD i 0 :: l.drop (i + 1)) := by
    conv => lhs; rw [← List.take_append_drop i l]
    rw [List.drop_eq_getElem_cons h]
    simp [List.getD, h]
  conv => lhs; rw [e]
  unfold ofL
  rw [List.flatMap_append, List.flatMap_cons]
theorem set_take : ∀ (l : List UInt8) (j : Nat) (c : UInt8), (l.set j c).take j = l.take j
  | [], _, _ => rfl
  | _ :: _, 0, _ => rfl
  | x :: l, j + 1, c => by rw [List.set_cons_succ, List.take_succ_cons, List.take_succ_cons, set_take l j c]
theorem set_drop : ∀ (l : List UInt8) (j : Nat) (c : UInt8), (l.set j c).drop (j + 1) = l.drop (j + 1)
  | [], _, _ => rfl
  | _ :: _, 0, _ => rfl
  | x :: l, j + 1, c => by rw [List.set_cons_succ, List.drop_succ_cons, List.drop_succ_cons, set_drop l j c]
/-- a byte behind the first that is another one: another sum -/
theorem gSum_apart (key : Nat) (l : List UInt8) (i : Nat) (c : UInt8) (h1 : 1 ≤ i) (hi : i < l.length) (hc : c ≠ l.getD i 0) : gSum key (l.set i c) ≠ gSum key l := by
  intro h
  obtain ⟨j, rfl⟩ : ∃ j, i = j + 1 := ⟨i - 1, by omega⟩
  have hj : j < (l.drop 1).length := by rw [List.length_drop]; omega
  have e1 : (l.set (j + 1) c).drop 1 = (l.drop 1).set j c := by
    cases l with
    | nil => simp at hi
    | cons x t => simp
  have e2 : (l.drop 1).getD j 0 = l.getD (j + 1) 0 := by
    cases l with
    | nil => simp at hi
    | cons x t => simp [List.getD]
  have hj' : j < ((l.drop 1).set j c).length := by simpa using hj
  unfold gSum sumV gRow at h
  rw [e1] at h
  have h2 := congrArg (· ^^^ kE 3) h
  simp only [Nat.xor_assoc, Nat.xor_self, Nat.xor_zero] at h2
  rw [ofL_split _ j hj', ofL_split _ j hj, getD_set_self hj, e2] at h2
  rw [set_take (l.drop 1) j c, set_drop (l.drop 1) j c] at h2
  rw [← List.append_assoc (bitsHead key 16 16), ← List.append_assoc (bitsHead key 16 16)] at h2
  have h3 := sum_apart (s := kS 3) (p := kP 3) (f := kF 3) rfl (kinds_ok 3 (by omega)).2.2.2.1 (kinds_odd 3 (by omega)) (kinds_ok 3 (by omega)).2.2.2.2.1 (bitsHead key 16 16 ++ ofL ((l.drop 1).take j)) (bitsHead c.toNat 8 8) (bitsHead (l.getD (j + 1) 0).toNat 8 8) (ofL ((l.drop 1).drop (j + 1))) (by rw [rowB_append, bitsHead_row, ofL_row]; rfl) (bitsHead_row _ _ _) (bitsHead_row _ _ _) (ofL_row _) (bitsHead_length _ _ _) (bitsHead_length _ _ _) h2
  rw [val_row _ _ (UInt8.toNat_lt _), val_row _ _ (UInt8.toNat_lt _)] at h3
  exact hc (UInt8.toNat_inj.1 h3)
/-- a key's bits are those of its two bytes -/
theorem key_bits {key : Nat} (h : key < 65536) : bitsHead key 16 16 = bitsHead (key / 256) 8 8 ++ bitsHead (key % 256) 8 8 := by
  have r1 : rowB (bitsHead (key / 256) 8 8 ++ bitsHead (key % 256) 8 8) = true := by rw [rowB_append, bitsHead_row, bitsHead_row]; rfl
  have hl : (bitsHead (key / 256) 8 8 ++ bitsHead (key % 256) 8 8).length = 16 := by simp [bitsHead_length]
  exact ((row_is _ key 16 r1 hl (by omega)).2 (by rw [val_append, val_row _ _ (by omega), val_row _ _ (by omega), bitsHead_length]; omega)).symm
theorem key_row {key : Nat} (h : key < 65536) (l : List UInt8) : ofL (UInt8.ofNat (key / 256) :: UInt8.ofNat (key % 256) :: l.drop 1) = gRow key l := by
  unfold gRow
  rw [key_bits h, ofL_cons, ofL_cons, ofNat_to (by omega), ofNat_to (by omega), List.append_assoc]
end Bw
end Go.Proofs.YtopoogdoepdedaaDoor
namespace Go.Proofs.YtopoogdoepdedaaDoor
open Go.ChangeShapes Go.WideShapes Go.ChangeAt Go.RowKit
namespace Bw
open Bm
theorem awG (w : World) (o : Obj) : Below w.heap.size w (w.alloc o) := (Below.refl _ _).alloc (Nat.le_refl _) _
theorem dwG (w : World) : Below w.heap.size w w.drew := ⟨rfl, rfl, rfl, Nat.le_refl _, fun _ _ => rfl⟩
theorem owns_baseG {w : World} {base base' : Nat} {e : TypeId} {size : Nat} {v : Value} {n : Nat} {xs : List Value} (h : w.ownsRow base e size v n xs) (hb : base' ≤ base) : w.ownsRow base' e size v n xs := by
  obtain ⟨h1, h2⟩ := h
  refine ⟨h1, ?_⟩
  rcases h2 with h2 | ⟨g, cap, cur, hv, hg, hr⟩
  · exact Or.inl h2
  · exact Or.inr ⟨g, cap, cur, hv, Nat.le_trans hb hg, hr⟩
theorem cells_atG (l : List UInt8) (i : Nat) (h : i < l.length) : (cellsOf l)[i]? = some (.int .u8 ((l.getD i 0).toNat : Int)) := by
  unfold cellsOf
  rw [List.getElem?_map, List.getElem?_eq_getElem h]
  simp [List.getD, h]
theorem isBytes_ownG {w : World} {base g n c : Nat} {l : List UInt8} (h : w.ownsRow base 5 1 (.slice (some ⟨g, 0, none⟩) n c) n (cellsOf l)) : IsBytes w (some ⟨g, 0, none⟩) n c l := by
  have hl : l.length = n := by have := h.1; rw [cellsOf_length] at this; omega
  rcases h.2 with ⟨h0, _⟩ | ⟨g', cap', cur, hv, hg, hh, hc, hm, hsz, htk⟩
  · cases h0
  · cases hv
    refine ⟨hl, hc, hm, fun e => (by cases e), fun x hx i hi => ?_⟩
    cases hx
    rw [Addr.add_lit, Nat.zero_add]
    have h2 := h.cells rfl i _ (cells_atG l i (by omega))
    rw [Addr.add_lit, Nat.zero_add] at h2
    exact h2
theorem hasG {w : World} {a : Option Addr} {n c : Nat} {l : List UInt8} (h : IsBytes w a n c l) : HasBytes w a n l := ⟨h.2.2.2.1, h.2.2.2.2⟩
theorem eqlG_nil (w : World) (cap : Nat) : (binOp .eql 22 (.slice none 0 cap) (.slice none 0 0)).run Tryd.prog w = .ok (.bool true) w :=
  Lib.run_eql_slice_nil w 22 5 none 0 cap 0 0 Tryd.underlying22
theorem eqlG_some (w : World) (x : Addr) (n cap : Nat) : (binOp .eql 22 (.slice (some x) n cap) (.slice none 0 0)).run Tryd.prog w = .ok (.bool false) w :=
  Lib.run_eql_slice_nil w 22 5 (some x) n cap 0 0 Tryd.underlying22
theorem bytes_cells {w : World} {x : Addr} {len cap : Nat} {dt : List UInt8} (hY : IsBytes w (some x) len cap dt) : ∀ q u, (cellsOf dt)[q]? = some u → w.cell? (x.add q) = some u := by
  intro q u hq
  have hq1 : q < dt.length := by
    rcases Nat.lt_or_ge q dt.length with hh | hh
    · exact hh
    · rw [List.getElem?_eq_none (by rw [cellsOf_length]; exact hh)] at hq; cases hq
  rw [hY.2.2.2.2 x rfl q (by have := hY.1; omega)]
  rw [cells_atG dt q hq1] at hq
  exact hq
set_option maxHeartbeats 4000000 in
set_option maxRecDepth 100000 in
theorem cloneBy_some (x : Addr) (len cap : Nat) (dt : List UInt8) (w : World) (hY : IsBytes w (some x) len cap dt) (hlen : len ≤ 140737488351232) :
    Calls Tryd.prog 14 #[.slice (some x) len cap] w fun e w' => ∃ g c, e = .returned (.slice (some ⟨g, 0, none⟩) len c) ∧ w'.ownsRow w.heap.size 5 1 (.slice (some ⟨g, 0, none⟩) len c) len (cellsOf dt) ∧ w.heap.size ≤ g ∧ Below w.heap.size w w' := by
  obtain ⟨i0, hi, hz0, hz1, hz2⟩ := info_parts info_u8
  have hB0 : Below w.heap.size w (w.alloc (.cells #[] 5)) := awG _ _
  have hcl : (cellsOf dt).length = len * 1 := by rw [cellsOf_length, hY.1, Nat.mul_one]
  have he := eqlG_some w x len cap
  have HO := Hid.mk (show (w.alloc (.cells #[] 5)).ownsRow w.heap.size 5 1 (.slice (some ⟨w.heap.size, 0, none⟩) 0 0) 0 [] from World.ownsRow_made w #[] 0 (Nat.le_refl _) (Nat.zero_le _) rfl)
  have HCC := Hid.mk (bytes_cells (isBytes_below hY hB0))
  have HB := Hid.mk hB0
  have HCL := Hid.mk hcl
  clear hY hB0 hcl
  go_enter Tryd.func14, Tryd.ntmps14
  go_wp2_with (at_builtin; refine wpList_append_own _ rfl (.tmp 5) (.tmp 6) 22 rfl w.heap.size 5 i0 (.int .u8 0) 1 1 Tryd.underlying22 hi hz0 hz1 hz2 rfl (by decide) _ _ _ rfl HO.out x len cap (cellsOf dt) rfl HCL.out HCC.out (by intro u hu; simp [cellsOf] at hu; obtain ⟨c, -, rfl⟩ := hu; rfl) (by unfold maxLen; omega) (by omega) (by simp) ?_; intro v3 w3 hown3 hgrow3 hnil3)
  rw [Nat.zero_add, List.nil_append] at hown3
  obtain ⟨g, c, rfl⟩ : ∃ g c, v3 = .slice (some ⟨g, 0, none⟩) len c := by
    rcases hown3.2 with ⟨h1, _⟩ | ⟨g, c, cur, h1, _⟩
    · have h2 := hnil3.1 h1
      cases h2.1
    · exact ⟨g, c, h1⟩
  have hB3 : Below w.heap.size w w3 := Below.grown HB.out hgrow3 (by simp) (fun q hq => (HO.out.lt q hq).1)
  have hg : w.heap.size ≤ g := by
    rcases hown3.2 with ⟨h0, _⟩ | ⟨g', cap', cur, hv, hg, _⟩
    · cases h0
    · cases hv; exact hg
  go_ret
  exact ⟨g, c, rfl, hown3, hg, hB3⟩
set_option maxHeartbeats 4000000 in
set_option maxRecDepth 100000 in
theorem cloneBy_nil (w : World) (cap : Nat) :
    Calls Tryd.prog 14 #[.slice none 0 cap] w fun e w' => e = .returned (.slice none 0 0) ∧ w' = w := by
  have he := eqlG_nil w cap
  go_enter Tryd.func14, Tryd.ntmps14
  go_wp2_with fail
  go_ret
  exact ⟨rfl, rfl⟩
theorem cloneBy_any (a : Option Addr) (len cap : Nat) (l : List UInt8) (w : World) (hD : IsBytes w a len cap l) (hlen : len ≤ 140737488351232) :
    Calls Tryd.prog 14 #[.slice a len cap] w fun e w' => ∃ a' c', e = .returned (.slice a' len c') ∧ IsBytes w' a' len c' l ∧ Below w.heap.size w w' := by
  cases a with
  | none =>
    have h0 := hD.2.2.2.1 rfl
    subst h0
    refine (cloneBy_nil w cap).mono ?_
    rintro e w' ⟨rfl, rfl⟩
    exact ⟨none, 0, rfl, ⟨hD.1, Nat.le_refl _, Nat.zero_le _, fun _ => rfl, fun x hx => by cases hx⟩, Below.refl _ _⟩
  | some x =>
    refine (cloneBy_some x len cap l w hD hlen).mono ?_
    rintro e w' ⟨g, c, rfl, hown, -, hb⟩
    exact ⟨some ⟨g, 0, none⟩, c, rfl, isBytes_ownG hown, hb⟩
set_option maxHeartbeats 4000000 in
set_option maxRecDepth 100000 in
theorem cloneSl_some (x : Addr) (len cap : Nat) (dt : List UInt8) (w : World) (hY : IsBytes w (some x) len cap dt) (hlen : len ≤ 140737488351232) :
    Calls Tryd.prog 5 #[.slice (some x) len cap] w fun e w' => ∃ g c, e = .returned (.slice (some ⟨g, 0, none⟩) len c) ∧ w'.ownsRow w.heap.size 5 1 (.slice (some ⟨g, 0, none⟩) len c) len (cellsOf dt) ∧ w.heap.size ≤ g ∧ Below w.heap.size w w' := by
  obtain ⟨i0, hi, hz0, hz1, hz2⟩ := info_parts info_u8
  have hB0 : Below w.heap.size w (w.alloc (.cells #[] 5)) := awG _ _
  have hcl : (cellsOf dt).length = len * 1 := by rw [cellsOf_length, hY.1, Nat.mul_one]
  have he := eqlG_some w x len cap
  have HO := Hid.mk (show (w.alloc (.cells #[] 5)).ownsRow w.heap.size 5 1 (.slice (some ⟨w.heap.size, 0, none⟩) 0 0) 0 [] from World.ownsRow_made w #[] 0 (Nat.le_refl _) (Nat.zero_le _) rfl)
  have HCC := Hid.mk (bytes_cells (isBytes_below hY hB0))
  have HB := Hid.mk hB0
  have HCL := Hid.mk hcl
  clear hY hB0 hcl
  go_enter Tryd.func5, Tryd.ntmps5
  go_wp2_with (at_builtin; refine wpList_append_own _ rfl (.tmp 5) (.tmp 6) 22 rfl w.heap.size 5 i0 (.int .u8 0) 1 1 Tryd.underlying22 hi hz0 hz1 hz2 rfl (by decide) _ _ _ rfl HO.out x len cap (cellsOf dt) rfl HCL.out HCC.out (by intro u hu; simp [cellsOf] at hu; obtain ⟨c, -, rfl⟩ := hu; rfl) (by unfold maxLen; omega) (by omega) (by simp) ?_; intro v3 w3 hown3 hgrow3 hnil3)
  rw [Nat.zero_add, List.nil_append] at hown3
  obtain ⟨g, c, rfl⟩ : ∃ g c, v3 = .slice (some ⟨g, 0, none⟩) len c := by
    rcases hown3.2 with ⟨h1, _⟩ | ⟨g, c, cur, h1, _⟩
    · have h2 := hnil3.1 h1
      cases h2.1
    · exact ⟨g, c, h1⟩
  have hB3 : Below w.heap.size w w3 := Below.grown HB.out hgrow3 (by simp) (fun q hq => (HO.out.lt q hq).1)
  have hg : w.heap.size ≤ g := by
    rcases hown3.2 with ⟨h0, _⟩ | ⟨g', cap', cur, hv, hg, _⟩
    · cases h0
    · cases hv; exact hg
  go_ret
  exact ⟨g, c, rfl, hown3, hg, hB3⟩
set_option maxHeartbeats 4000000 in
set_option maxRecDepth 100000 in
theorem cloneSl_nil (w : World) (cap : Nat) :
    Calls Tryd.prog 5 #[.slice none 0 cap] w fun e w' => e = .returned (.slice none 0 0) ∧ w' = w := by
  have he := eqlG_nil w cap
  go_enter Tryd.func5, Tryd.ntmps5
  go_wp2_with fail
  go_ret
  exact ⟨rfl, rfl⟩
theorem cloneSl_any (a : Option Addr) (len cap : Nat) (l : List UInt8) (w : World) (hD : IsBytes w a len cap l) (hlen : len ≤ 140737488351232) :
    Calls Tryd.prog 5 #[.slice a len cap] w fun e w' => ∃ a' c', e = .returned (.slice a' len c') ∧ IsBytes w' a' len c' l ∧ Below w.heap.size w w' := by
  cases a with
  | none =>
    have h0 := hD.2.2.2.1 rfl
    subst h0
    refine (cloneSl_nil w cap).mono ?_
    rintro e w' ⟨rfl, rfl⟩
    exact ⟨none, 0, rfl, ⟨hD.1, Nat.le_refl _, Nat.zero_le _, fun _ => rfl, fun x hx => by cases hx⟩, Below.refl _ _⟩
  | some x =>
    refine (cloneSl_some x len cap l w hD hlen).mono ?_
    rintro e w' ⟨g, c, rfl, hown, -, hb⟩
    exact ⟨some ⟨g, 0, none⟩, c, rfl, isBytes_ownG hown, hb⟩
end Bw
end Go.Proofs.YtopoogdoepdedaaDoor
namespace Go.Proofs.YtopoogdoepdedaaDoor
open Go.ChangeShapes Go.WideShapes Go.ChangeAt Go.RowKit
namespace Bw
open Bm Cm
def inG (n lo hi : Int) : Bool := decide (lo ≤ n) && decide (n ≤ hi)
theorem inG_yes {n lo hi : Int} (h : lo ≤ n ∧ n ≤ hi) : inG n lo hi = true := by unfold inG; simp [h.1, h.2]
theorem inG_no {n lo hi : Int} (h : ¬ (lo ≤ n ∧ n ≤ hi)) : inG n lo hi = false := by
  cases e : inG n lo hi with
  | false => rfl
  | true => unfold inG at e; simp at e; exact absurd e h
theorem inG_iff {n lo hi : Int} : inG n lo hi = true ↔ lo ≤ n ∧ n ≤ hi := by unfold inG; simp
theorem gwithin_any (n lo hi : Int) (w : World) :
    Calls Tryd.prog 11 #[.int .i64 n, .int .i64 lo, .int .i64 hi] w fun e w' => e = .returned (.bool (inG n lo hi)) ∧ w' = w := by
  by_cases h0 : lo ≤ n
  · by_cases h1 : n ≤ hi
    · rw [inG_yes ⟨h0, h1⟩]
      go_enter Tryd.func11, Tryd.ntmps11
      go_wp2_with fail
      go_ret
      exact ⟨rfl, rfl⟩
    · rw [inG_no (fun h => h1 h.2)]
      go_enter Tryd.func11, Tryd.ntmps11
      go_wp2_with fail
      go_ret
      exact ⟨rfl, rfl⟩
  · rw [inG_no (fun h => h0 h.1)]
    go_enter Tryd.func11, Tryd.ntmps11
    go_wp2_with fail
    go_ret
    exact ⟨rfl, rfl⟩
/-- what is wrong with data of so many bytes -/
def szE (n : Nat) : Int := if n < 2 then 7 else if 64 < n then 2 else 0
theorem szE_ok {n : Nat} (h : szE n = 0) : 2 ≤ n ∧ n ≤ 64 := by
  unfold szE at h
  split at h
  · omega
  · split at h <;> omega
theorem checkSize_any (a : Option Addr) (len cap : Nat) (w : World) (hl : len ≤ maxLen) :
    Calls Tryd.prog 12 #[.slice a len cap] w fun e w' => e = .returned (.int .i64 (szE len)) ∧ w' = w := by
  unfold maxLen at hl
  by_cases h0 : len < 2
  · rw [show szE len = 7 by unfold szE; rw [if_pos h0]]
    have h0' : (len : Int) < 2 := by omega
    go_enter Tryd.func12, Tryd.ntmps12
    go_wp2_with fail
    go_ret
    exact ⟨rfl, rfl⟩
  · by_cases h1 : 64 < len
    · rw [show szE len = 2 by unfold szE; rw [if_neg h0, if_pos h1]]
      have h0' : ¬ ((len : Int) < 2) := by omega
      have h1' : (64 : Int) < (len : Int) := by omega
      go_enter Tryd.func12, Tryd.ntmps12
      go_wp2_with fail
      go_ret
      exact ⟨rfl, rfl⟩
    · rw [show szE len = 0 by unfold szE; rw [if_neg h0, if_neg h1]]
      have h0' : ¬ ((len : Int) < 2) := by omega
      have h1' : ¬ ((64 : Int) < (len : Int)) := by omega
      go_enter Tryd.func12, Tryd.ntmps12
      go_wp2_with fail
      go_ret
      exact ⟨rfl, rfl⟩
def keyB (key : Nat) : ByteArray := ⟨(bitsHead key 16 16).toArray⟩
theorem keyB_list (key : Nat) : (keyB key).data.toList = bitsHead key 16 16 := mk_list _
theorem keyB_size (key : Nat) : (keyB key).size = 16 := by unfold keyB; rw [mk_size, bitsHead_length]
set_option maxHeartbeats 2000000 in
theorem sumUnder_any (key : Nat) (w : World) (hk : key < 65536) :
    Calls Tryd.prog 13 #[.int .i64 key] w fun e w' => ∃ g, e = .returned (.func (.func 23) #[] #[.pointer (some ⟨g, 0, none⟩)]) ∧ w'.cell? ⟨g, 0, none⟩ = some (.string (keyB key)) ∧ Below w.heap.size w w' := by
  have HR := Hid.mk (row_ok key 16 w (by omega) hk)
  rw [show (⟨(bitsHead key 16 16).toArray⟩ : ByteArray) = keyB key from rfl] at HR
  clear hk
  generalize keyB key = K at *
  go_enter Tryd.func13, Tryd.ntmps13
  go_wp2_with fail
  refine HR.out.mono ?_
  rintro e w1 ⟨rfl, hb1⟩
  have HB := Hid.mk (bl2 hb1 (awG w1 (.cells #[.string K] 9)))
  have HN := Hid.mk (cell_of_row _ _ 0 _ _ _ (heap_alloc_new w1 (.cells #[.string K] 9)))
  clear hb1
  go_wp2_with fail
  go_ret
  exact ⟨_, rfl, HN.out, HB.out⟩
theorem isBytes_tail {w : World} {x : Addr} {len cap : Nat} {l : List UInt8} (h : IsBytes w (some x) len cap l) (h1 : 1 ≤ len) : IsBytes w (some (x.add 1)) (len - 1) (cap - 1) (l.drop 1) := by
  obtain ⟨a1, a2, a3, a4, a5⟩ := h
  refine ⟨by rw [List.length_drop, a1], by omega, by omega, fun e => (by cases e), fun y hy i hi => ?_⟩
  cases hy
  rw [Addr.add_add, a5 x rfl (1 + i) (by omega)]
  congr 3
  simp [List.getD, Nat.add_comm 1 i]
set_option maxHeartbeats 4000000 in
set_option maxRecDepth 100000 in
theorem sum1_any (key g : Nat) (x : Addr) (len cap : Nat) (l : List UInt8) (w : World) (hR : RulesAt w) (hK : w.cell? ⟨g, 0, none⟩ = some (.string (keyB key))) (hD : IsBytes w (some x) len cap l) (h2 : 2 ≤ len) (h64 : len ≤ 64) :
    Calls Tryd.prog 23 #[.slice (some x) len cap, .pointer (some ⟨g, 0, none⟩)] w fun e w' => e = .returned (.int .u8 (gSum key l)) ∧ Below w.heap.size w w' := by
  have hlen : l.length = len := hD.1
  have hcap : len ≤ cap := hD.2.1
  have HOF := Hid.mk (of_any (some (x.add 1)) (len - 1) (cap - 1) (l.drop 1) w (by omega) (isBytes_tail hD (by omega)))
  have HCAT : Hid ((keyB key ++ ⟨(ofL (l.drop 1)).toArray⟩ : ByteArray).data.toList = gRow key l) := Hid.mk (by rw [ba_cat, keyB_list, mk_list]; rfl)
  have hrl := gRow_len key l
  have hz1 : (keyB key).size = 16 := keyB_size key
  have hz2 : (⟨(ofL (l.drop 1)).toArray⟩ : ByteArray).size ≤ 1000 := by rw [mk_size, ofL_length, List.length_drop]; omega
  have hck : checkE (gRow key l) = 0 := checkE_row (gRow_row key l) (by omega)
  obtain ⟨T, hT⟩ : ∃ T : ByteArray, T = ⟨(ofL (l.drop 1)).toArray⟩ := ⟨_, rfl⟩
  rw [← hT] at HOF HCAT hz2
  have hz3 : (T.size : Int) ≤ 1000 := by omega
  have hz4 : ((keyB key).size : Int) = 16 := by omega
  have HSM := Hid.mk (fun W (h : Below w.heap.size w W) => sum_ok 3 (keyB key ++ T) W (hR.kept h) (by rw [HCAT.out]; exact hck) (by omega))
  rw [HCAT.out] at HSM
  obtain ⟨U, hU⟩ : ∃ U : ByteArray, U = ⟨(sumL 3 (gRow key l)).toArray⟩ := ⟨_, rfl⟩
  have hUl : U.data.toList = sumL 3 (gRow key l) := by rw [hU, mk_list]
  have hUz : U.size = 8 := by rw [hU, mk_size, sumL_len]; rfl
  rw [← hU] at HSM
  have hnE : numE U.data.toList = 0 := by
    unfold numE
    rw [hUl, checkE_row (sumL_row _ _) (by rw [sumL_len]; decide), if_pos rfl, if_neg (by rw [sumL_len]; decide)]
  have hnV : numV U.data.toList = gSum key l := by
    unfold numV
    rw [if_pos hnE, hUl, gSum_val]
  have hNU := fun W => number_any U W (by unfold maxLen; omega)
  rw [hnE, hnV] at hNU
  have HNU := Hid.mk hNU
  have hS := gSum_lt key l
  have HKK := Hid.mk hK
  clear hNU hnE hnV hUl hUz hck hrl hT hU HCAT hR hD hlen hz1 hz2 hK
  generalize gSum key l = S at *
  have hS' : (S : Int) ≤ 255 := by omega
  have hlen1 : (1 : Int) ≤ (len : Int) := by omega
  have hcap' : (len : Int) ≤ (cap : Int) := by omega
  go_enter Tryd.func23, Tryd.ntmps23
  go_wp2_with fail
  refine HOF.out.mono ?_
  rintro e w1 ⟨rfl, hb1⟩
  have hk1 := cell_kept hb1 HKK.out
  have HB1 := Hid.mk hb1
  clear hb1 HKK HOF
  go_wp2_with fail
  refine (HSM.out _ HB1.out).mono ?_
  rintro e w2 ⟨rfl, hb2⟩
  have HB2 := Hid.mk (bl2 HB1.out hb2)
  clear hb2 hk1 HSM HB1
  go_wp2_with fail
  refine (HNU.out _).mono ?_
  rintro e w3 ⟨rfl, hb3⟩
  have HB3 := Hid.mk (bl2 HB2.out hb3)
  clear hb3 HNU HB2
  go_wp2_with fail
  go_ret
  exact ⟨by first | rfl | (congr 2; omega), HB3.out⟩
/-- Put's error -/
def putE (key ctr : Int) (len : Nat) : Int := if inG key 0 65535 = true ∧ inG ctr 0 14 = true then szE len else 3
theorem putE_ok {key ctr : Int} {len : Nat} (h : putE key ctr len = 0) : (0 ≤ key ∧ key ≤ 65535) ∧ (0 ≤ ctr ∧ ctr ≤ 14) ∧ 2 ≤ len ∧ len ≤ 64 := by
  unfold putE at h
  split at h
  · rename_i h1
    exact ⟨inG_iff.1 h1.1, inG_iff.1 h1.2, szE_ok h⟩
  · omega
set_option maxHeartbeats 2000000 in
theorem put_bad (key ctr : Int) (a : Option Addr) (len cap : Nat) (w : World) (hl : len ≤ maxLen) (hE : putE key ctr len ≠ 0) :
    Calls Tryd.prog 6 #[.int .i64 key, .int .i64 ctr, .slice a len cap] w fun e w' => e = .returned (.tuple #[.slice none 0 0, .int .i64 (putE key ctr len)]) ∧ Below w.heap.size w w' := by
  have hW1 := gwithin_any key 0 65535 w
  have hW2 := gwithin_any ctr 0 14 w
  have hSZ := checkSize_any a len cap w hl
  clear hl
  cases h1 : inG key 0 65535 with
  | false =>
    rw [show putE key ctr len = 3 by unfold putE; rw [if_neg (by rw [h1]; simp)]]
    rw [h1] at hW1
    clear hE h1 hW2 hSZ
    go_enter Tryd.func6, Tryd.ntmps6
    go_wp2_with fail
    refine hW1.mono ?_
    rintro e w1 ⟨rfl, hw1⟩
    subst hw1
    go_wp2_with fail
    go_ret2
    exact ⟨rfl, Below.refl _ _⟩
  | true =>
    rw [h1] at hW1
    cases h2 : inG ctr 0 14 with
    | false =>
      rw [show putE key ctr len = 3 by unfold putE; rw [if_neg (by rw [h2]; simp)]]
      rw [h2] at hW2
      clear hE h1 h2 hSZ
      go_enter Tryd.func6, Tryd.ntmps6
      go_wp2_with fail
      refine hW1.mono ?_
      rintro e w1 ⟨rfl, hw1⟩
      subst hw1
      go_wp2_with fail
      refine hW2.mono ?_
      rintro e w1 ⟨rfl, hw1⟩
      subst hw1
      go_wp2_with fail
      go_ret2
      exact ⟨rfl, Below.refl _ _⟩
    | true =>
      have e : putE key ctr len = szE len := by unfold putE; rw [if_pos ⟨h1, h2⟩]
      rw [e] at hE
      rw [e]
      rw [h2] at hW2
      have hne : (szE len != 0) = true := by simpa using hE
      clear hE h1 h2 e
      generalize szE len = E at *
      go_enter Tryd.func6, Tryd.ntmps6
      go_wp2_with fail
      refine hW1.mono ?_
      rintro e w1 ⟨rfl, hw1⟩
      subst hw1
      go_wp2_with fail
      refine hW2.mono ?_
      rintro e w1 ⟨rfl, hw1⟩
      subst hw1
      go_wp2_with fail
      refine hSZ.mono ?_
      rintro e w1 ⟨rfl, hw1⟩
      subst hw1
      go_wp2_with fail
      go_ret2
      exact ⟨rfl, Below.refl _ _⟩
theorem put_ops : ((List.range 256).all fun c => (List.range 15).all fun n => (bits .or .u8 (bits .andNot .u8 (c : Int) 15) (n : Int) == (ctr c n : Int))) = true := by kernel_rfl
theorem put_op {c n : Nat} (hc : c < 256) (hn : n < 15) : bits .or .u8 (bits .andNot .u8 (c : Int) 15) (n : Int) = (ctr c n : Int) :=
  eq_of_beq (List.all_eq_true.1 (List.all_eq_true.1 put_ops c (List.mem_range.2 hc)) n (List.mem_range.2 hn))
theorem cells_setG (l : List UInt8) (i n : Nat) (hn : n < 256) : (cellsOf l).set i (.int .u8 (n : Int)) = cellsOf (l.set i (UInt8.ofNat n)) := by
  unfold cellsOf
  rw [List.map_set, ofNat_to hn]
set_option maxHeartbeats 8000000 in
set_option maxRecDepth 100000 in
theorem put_ok (key n : Nat) (a : Option Addr) (len cap : Nat) (l : List UInt8) (w : World) (hR : RulesAt w) (hD : IsBytes w a len cap l) (hk : key ≤ 65535) (hn : n ≤ 14) (h2 : 2 ≤ len) (h64 : len ≤ 64) :
    Calls Tryd.prog 6 #[.int .i64 key, .int .i64 n, .slice a len cap] w fun e w' => ∃ g c, e = .returned (.tuple #[.slice (some ⟨g, 0, none⟩) len c, .int .i64 0]) ∧ w'.ownsRow w.heap.size 5 1 (.slice (some ⟨g, 0, none⟩) len c) len (cellsOf (putL key n l)) ∧ w.heap.size ≤ g ∧ Below w.heap.size w w' := by
  cases a with
  | none => exact absurd (hD.2.2.2.1 rfl) (by omega)
  | some x =>
  have hll : l.length = len := hD.1
  have hW1 := gwithin_any (key : Int) 0 65535 w
  rw [inG_yes ⟨by omega, by omega⟩] at hW1
  have hW2 := gwithin_any (n : Int) 0 14 w
  rw [inG_yes ⟨by omega, by omega⟩] at hW2
  have hSZ := checkSize_any (some x) len cap w (Nat.le_trans hD.2.1 hD.2.2.1)
  rw [show szE len = 0 by unfold szE; rw [if_neg (by omega), if_neg (by omega)]] at hSZ
  have HSU := Hid.mk (sumUnder_any key w (by omega))
  have HCL := Hid.mk (fun W (h : Below w.heap.size w W) => cloneBy_some x len cap l W (isBytes_below hD h) (by omega))
  have HS1 := Hid.mk (fun g y c L W (hb : Below w.heap.size w W) (hK : W.cell? ⟨g, 0, none⟩ = some (.string (keyB key))) (hY : IsBytes W (some y) len c L) => sum1_any key g y len c L W (hR.kept hb) hK hY h2 h64)
  obtain ⟨y, hy⟩ : ∃ y, y = (l.getD 1 0).toNat := ⟨_, rfl⟩
  have hy256 : y < 256 := by rw [hy]; exact UInt8.toNat_lt _
  have hop := put_op hy256 (show n < 15 by omega)
  have hcl := ctr_lt hy256 (show n < 16 by omega)
  have hset1 := cells_setG l 1 (ctr y n) hcl
  have e1 : l.set 1 (UInt8.ofNat (ctr y n)) = cntL n l := by unfold cntL; rw [hy]
  rw [e1] at hset1
  have hset0 := cells_setG (cntL n l) 0 (gSum key (cntL n l)) (gSum_lt _ _)
  have e0 : (cntL n l).set 0 (UInt8.ofNat (gSum key (cntL n l))) = putL key n l := rfl
  rw [e0] at hset0
  have hat1 := cells_atG l 1 (by omega)
  rw [← hy] at hat1
  have hcn : (cntL n l).length = len := by rw [cntL_len]; exact hll
  have hat0 := cells_atG (cntL n l) 0 (by omega)
  have HAT1 := Hid.mk hat1
  have HAT0 := Hid.mk hat0
  have HSET1 := Hid.mk hset1
  have HSET0 := Hid.mk hset0
  have hS := gSum_lt key (cntL n l)
  have hcl' : (ctr y n : Int) ≤ 255 := by omega
  have hy' : (y : Int) ≤ 255 := by omega
  have hn' : (n : Int) ≤ 14 := by omega
  have hlen2 : (2 : Int) ≤ (len : Int) := by omega
  have hlen3 : 1 < len := by omega
  have hlen4 : 0 < len := by omega
  obtain ⟨S, hGS⟩ : ∃ S, gSum key (cntL n l) = S := ⟨_, rfl⟩
  rw [hGS] at hS HSET0
  have HGS := Hid.mk hGS
  clear hy hy256 hcl hset1 e1 hset0 e0 hat1 hat0 hD hR hll h64 hcn hGS
  generalize ((cntL n l).getD 0 0).toNat = y0 at *
  generalize cntL n l = L at *
  generalize putL key n l = LP at *
  generalize ctr y n = cy at *
  generalize keyB key = K at *
  have hS' : (S : Int) ≤ 255 := by omega
  go_enter Tryd.func6, Tryd.ntmps6
  go_wp2_with fail
  refine hW1.mono ?_
  rintro e w1 ⟨rfl, hw1⟩
  subst hw1
  go_wp2_with fail
  refine hW2.mono ?_
  rintro e w1 ⟨rfl, hw1⟩
  subst hw1
  go_wp2_with fail
  refine hSZ.mono ?_
  rintro e w1 ⟨rfl, hw1⟩
  subst hw1
  clear hW1 hW2 hSZ
  go_wp2_with fail
  refine HSU.out.mono ?_
  rintro e w1 ⟨gk, rfl, hK1, hb1⟩
  have HB1 := Hid.mk hb1
  have HK1 := Hid.mk hK1
  clear hK1 hb1 HSU
  go_wp2_with fail
  refine (HCL.out _ HB1.out).mono ?_
  rintro e w2 ⟨g, c, rfl, hown, hg, hb2⟩
  have HG := Hid.mk hg
  have HO2 := Hid.mk hown
  have hc2 := HO2.out.cellAt 1 (by omega)
  have hf2 := HO2.out.frozenAt 1
  rw [HAT1.out] at hc2
  have hst := HO2.out.stored 1 (.int .u8 (cy : Int))
  rw [HSET1.out] at hst
  have hB3 := hb2.grown hst.2 hb2.size (fun q hq => by cases hq; exact HG.out)
  have HB3 := Hid.mk hB3
  have HO3 := Hid.mk hst.1
  have HSM := Hid.mk (HS1.out gk ⟨g, 0, none⟩ c L _ (bl2 HB1.out hB3) (cell_kept hB3 HK1.out) (isBytes_ownG hst.1))
  rw [HGS.out] at HSM
  clear hown hg hb2 hst HK1 HCL hB3 HS1 HO2
  go_wp2_with fail
  refine HSM.out.mono ?_
  rintro e w4 ⟨rfl, hb4⟩
  have HO4 := Hid.mk (ownsRow_below HO3.out hb4)
  have HB4 := Hid.mk (bl2 HB3.out hb4)
  have hc4 := HO4.out.cellAt 0 (by omega)
  have hf4 := HO4.out.frozenAt 0
  rw [HAT0.out] at hc4
  have hst := HO4.out.stored 0 (.int .u8 (S : Int))
  rw [HSET0.out] at hst
  have HO5 := Hid.mk hst.1
  have HB5 := Hid.mk (HB4.out.grown hst.2 HB4.out.size (fun q hq => by cases hq; exact HG.out))
  clear hb4 hst hc2 hf2 HSM HO3 HB3
  go_wp2_with fail
  go_ret2
  exact ⟨g, c, rfl, owns_baseG HO5.out HB1.out.size, Nat.le_trans HB1.out.size HG.out, bl2 HB1.out HB5.out⟩
end Bw
end Go.Proofs.YtopoogdoepdedaaDoor
namespace Go.Proofs.YtopoogdoepdedaaDoor
open Go.ChangeShapes Go.WideShapes Go.ChangeAt Go.RowKit Go.Sort
namespace Bw
open Bm Cm
def gdV (k l b s : Int) : Value := .agg #[.int .i64 k, .int .i64 l, .int .i64 b, .int .i64 s]
def gdC (k l b s : Int) : Obj := .cells #[.int .i64 k, .int .i64 l, .int .i64 b, .int .i64 s] 32
theorem gd_i : (Tryd.prog.info? 32).map (·.size) = some 4 := by kernel_rfl
theorem new2G (w : World) (o p : Obj) : (w.alloc o).alloc p |>.heap[w.heap.size + 1]? = some (p) := by
  have h := heap_alloc_new (w.alloc o) p
  rw [show (w.alloc o).heap.size = w.heap.size + 1 by simp] at h
  exact h
set_option maxHeartbeats 2000000 in
set_option maxRecDepth 100000 in
theorem gcheck_ok (k l b s : Int) (w : World) (hk : 0 ≤ k ∧ k ≤ 65535) (hl : -1 ≤ l ∧ l ≤ 14) (hb : 0 ≤ b) (hs : 0 ≤ s ∧ s ≤ 4) :
    Calls Tryd.prog 19 #[gdV k l b s] w fun e w' => e = .returned (.int .i64 0) ∧ Below w.heap.size w w' := by
  have hW1 := fun W => gwithin_any k 0 65535 W
  have hW2 := fun W => gwithin_any l (-1) 14 W
  have hW3 := fun W => gwithin_any s 0 4 W
  simp only [inG_yes hk] at hW1
  simp only [inG_yes hl] at hW2
  simp only [inG_yes hs] at hW3
  have HB := Hid.mk (awG w (gdC k l b s))
  unfold gdC at HB
  have hb0 : ¬ (b < 0) := by omega
  unfold gdV
  clear hk hl hs
  go_enter Tryd.func19, Tryd.ntmps19
  go_wp2_with fail
  refine (hW1 _).mono ?_
  rintro e w1 ⟨rfl, hw1⟩
  rw [hw1]
  clear hw1
  go_wp2_with fail
  refine (hW2 _).mono ?_
  rintro e w1 ⟨rfl, hw1⟩
  rw [hw1]
  clear hw1
  go_wp2_with fail
  refine (hW3 _).mono ?_
  rintro e w1 ⟨rfl, hw1⟩
  rw [hw1]
  clear hw1
  go_wp2_with fail
  go_ret
  exact ⟨rfl, HB.out⟩
set_option maxHeartbeats 2000000 in
set_option maxRecDepth 100000 in
theorem broken_any (k l b s : Int) (w : World) (hb : 0 ≤ b) (hb1 : b ≤ 999999) :
    Calls Tryd.prog 20 #[gdV k l b s] w fun e w' => e = .returned (gdV k l (b + 1) 4) ∧ Below w.heap.size w w' := by
  have HN := Hid.mk (new2G w (gdC k l (b + 1) 4) (gdC k l (b + 1) 4))
  have HB := Hid.mk (bl2 (awG w (gdC k l (b + 1) 4)) (awG (w.alloc (gdC k l (b + 1) 4)) (gdC k l (b + 1) 4)))
  unfold gdC at HN HB
  unfold gdV
  go_enter Tryd.func20, Tryd.ntmps20
  go_wp2_with fail
  refine bodyPost_ret (results_cell_row rfl _ _ (w.heap.size + 1) _ _ _ _ rfl HN.out Tryd.underlying32 rfl gd_i) rfl ?_
  exact ⟨rfl, HB.out⟩
theorem state_good (l c m : Int) (w : World) (hl : -1 ≤ l ∧ l ≤ 14) (hc : 0 ≤ c ∧ c ≤ 14) (h : l = -1 ∨ (c - l + 15) % 15 = 1) :
    Calls Tryd.prog 37 #[.int .i64 l, .int .i64 c, .int .i64 m] w fun e w' => e = .returned (.int .i64 1) ∧ w' = w := by
  obtain ⟨l0, l1⟩ := hl
  obtain ⟨c0, c1⟩ := hc
  have hrem : IntKind.i64.wrap ((IntKind.i64.wrap (IntKind.i64.wrap (c - l) + 15)).tmod 15) = (c - l + 15) % 15 := by
    have e1 : IntKind.i64.wrap (c - l) = c - l := by rw [IntKind.wrap_i64]; omega
    rw [e1]
    have e2 : IntKind.i64.wrap (c - l + 15) = c - l + 15 := by rw [IntKind.wrap_i64]; omega
    rw [e2, Int.tmod_eq_emod_of_nonneg (by omega), IntKind.wrap_i64]
    omega
  by_cases h1 : l = -1
  · subst h1
    go_enter Tryd.func37, Tryd.ntmps37
    go_wp2_with fail
    go_ret
    exact ⟨rfl, rfl⟩
  · have h2 : (c - l + 15) % 15 = 1 := by omega
    have h3 : (l == -1) = false := by simpa using h1
    clear h h1
    go_enter Tryd.func37, Tryd.ntmps37
    go_wp2_with fail
    go_ret
    exact ⟨rfl, rfl⟩
theorem state_same (l c m : Int) (w : World) (hl : 0 ≤ l ∧ l ≤ 14) (hc : c = l) :
    Calls Tryd.prog 37 #[.int .i64 l, .int .i64 c, .int .i64 m] w fun e w' => e = .returned (.int .i64 3) ∧ w' = w := by
  subst hc
  obtain ⟨c0, c1⟩ := hl
  have hrem : IntKind.i64.wrap ((IntKind.i64.wrap (IntKind.i64.wrap (c - c) + 15)).tmod 15) = 0 := by
    rw [Int.sub_self]
    rfl
  have h3 : (c == -1) = false := by simp; omega
  go_enter Tryd.func37, Tryd.ntmps37
  go_wp2_with fail
  go_ret
  exact ⟨rfl, rfl⟩
set_option maxHeartbeats 2000000 in
set_option maxRecDepth 100000 in
theorem counted_good (k l b s c m : Int) (w : World) (hl : -1 ≤ l ∧ l ≤ 14) (hc : 0 ≤ c ∧ c ≤ 14) (h : l = -1 ∨ (c - l + 15) % 15 = 1) :
    Calls Tryd.prog 21 #[gdV k l b s, .int .i64 c, .int .i64 m] w fun e w' => e = .returned (gdV k c 0 1) ∧ Below w.heap.size w w' := by
  have hS := fun W => state_good l c m W hl hc h
  have HN := Hid.mk (new2G w (gdC k c 0 1) (gdC k c 0 1))
  have HB := Hid.mk (bl2 (awG w (gdC k c 0 1)) (awG (w.alloc (gdC k c 0 1)) (gdC k c 0 1)))
  unfold gdC at HN HB
  unfold gdV
  clear hl hc h
  go_enter Tryd.func21, Tryd.ntmps21
  go_wp2_with fail
  refine (hS _).mono ?_
  rintro e w1 ⟨rfl, hw1⟩
  rw [hw1]
  clear hw1
  go_wp2_with fail
  refine bodyPost_ret (results_cell_row rfl _ _ (w.heap.size + 1) _ _ _ _ rfl HN.out Tryd.underlying32 rfl gd_i) rfl ?_
  exact ⟨rfl, HB.out⟩
set_option maxHeartbeats 2000000 in
set_option maxRecDepth 100000 in
theorem counted_same (k l b s c m : Int) (w : World) (hl : 0 ≤ l ∧ l ≤ 14) (hc : c = l) :
    Calls Tryd.prog 21 #[gdV k l b s, .int .i64 c, .int .i64 m] w fun e w' => e = .returned (gdV k c b 3) ∧ Below w.heap.size w w' := by
  have hS := fun W => state_same l c m W hl hc
  have HN := Hid.mk (new2G w (gdC k c b 3) (gdC k c b 3))
  have HB := Hid.mk (bl2 (awG w (gdC k c b 3)) (awG (w.alloc (gdC k c b 3)) (gdC k c b 3)))
  unfold gdC at HN HB
  unfold gdV
  clear hl hc
  go_enter Tryd.func21, Tryd.ntmps21
  go_wp2_with fail
  refine (hS _).mono ?_
  rintro e w1 ⟨rfl, hw1⟩
  rw [hw1]
  clear hw1
  go_wp2_with fail
  refine bodyPost_ret (results_cell_row rfl _ _ (w.heap.size + 1) _ _ _ _ rfl HN.out Tryd.underlying32 rfl gd_i) rfl ?_
  exact ⟨rfl, HB.out⟩
theorem see_res (tmps : Array Value) (w : World) (g : Nat) (cs : Array Value) (x : Value) (hp : tmps.getD 6 undef = .pointer (some ⟨g, 0, none⟩)) (hx : tmps.getD 7 undef = x) (h : w.heap[g]? = some (.cells cs 32 (0, 0))) (hs : cs.size = 4) :
    (results Tryd.f10 tmps).run Tryd.prog w = .ok (.tuple #[.agg cs, x]) w := by
  have hl := run_loadVar_row (P := Tryd.prog) w g 32 32 cs (0, 0) _ h Tryd.underlying32 rfl (by rw [gd_i, hs])
  have hp' : tmps[6]?.getD undef = .pointer (some ⟨g, 0, none⟩) := by simpa using hp
  have hx' : tmps[7]?.getD undef = x := by simpa using hx
  simp [results, hp', hx', asAddr, hl]
theorem and15 : ((List.range 256).all fun c => (bits .and .u8 (c : Int) 15 == ((c % 16 : Nat) : Int))) = true := by kernel_rfl
theorem and_op {c : Nat} (hc : c < 256) : bits .and .u8 (c : Int) 15 = ((c % 16 : Nat) : Int) := eq_of_beq (List.all_eq_true.1 and15 c (List.mem_range.2 hc))
/-- a guard's variable -/
def GdAt (w : World) (g : Nat) (k l b s : Int) : Prop := w.heap[g]? = some (.cells #[.int .i64 k, .int .i64 l, .int .i64 b, .int .i64 s] 32 (0, 0))
theorem GdAt.lt {w : World} {g : Nat} {k l b s : Int} (h : GdAt w g k l b s) : g < w.heap.size := (Array.getElem?_eq_some_iff.1 h).1
theorem GdAt.kept {w w' : World} {g : Nat} {k l b s : Int} (h : GdAt w g k l b s) (hb : Below w.heap.size w w') : GdAt w' g k l b s := by unfold GdAt; rw [hb.block g h.lt]; exact h
theorem GdAt.cells {w : World} {g : Nat} {k l b s : Int} (h : GdAt w g k l b s) : (w.cell? ⟨g, 0, none⟩ = some (.int .i64 k) ∧ w.cell? ⟨g, 1, none⟩ = some (.int .i64 l) ∧ w.cell? ⟨g, 2, none⟩ = some (.int .i64 b) ∧ w.cell? ⟨g, 3, none⟩ = some (.int .i64 s)) ∧ (w.frozen? ⟨g, 0, none⟩ = false ∧ w.frozen? ⟨g, 1, none⟩ = false ∧ w.frozen? ⟨g, 2, none⟩ = false ∧ w.frozen? ⟨g, 3, none⟩ = false) :=
  ⟨⟨cell_of_row _ _ 0 _ _ _ h, cell_of_row _ _ 1 _ _ _ h, cell_of_row _ _ 2 _ _ _ h, cell_of_row _ _ 3 _ _ _ h⟩, ⟨frozen_of_row _ _ 0 _ _ h, frozen_of_row _ _ 1 _ _ h, frozen_of_row _ _ 2 _ _ h, frozen_of_row _ _ 3 _ _ h⟩⟩
theorem GdAt.store {w : World} {g : Nat} {k l b s : Int} (h : GdAt w g k l b s) (k' l' b' s' : Int) :
    ((w.setCell ⟨g, 0, none⟩ (.int .i64 k')).cell? ⟨g, 1, none⟩ = some (.int .i64 l) ∧ (w.setCell ⟨g, 0, none⟩ (.int .i64 k')).frozen? ⟨g, 1, none⟩ = false) ∧ (((w.setCell ⟨g, 0, none⟩ (.int .i64 k')).setCell ⟨g, 1, none⟩ (.int .i64 l')).cell? ⟨g, 2, none⟩ = some (.int .i64 b) ∧ ((w.setCell ⟨g, 0, none⟩ (.int .i64 k')).setCell ⟨g, 1, none⟩ (.int .i64 l')).frozen? ⟨g, 2, none⟩ = false) ∧ ((((w.setCell ⟨g, 0, none⟩ (.int .i64 k')).setCell ⟨g, 1, none⟩ (.int .i64 l')).setCell ⟨g, 2, none⟩ (.int .i64 b')).cell? ⟨g, 3, none⟩ = some (.int .i64 s) ∧ (((w.setCell ⟨g, 0, none⟩ (.int .i64 k')).setCell ⟨g, 1, none⟩ (.int .i64 l')).setCell ⟨g, 2, none⟩ (.int .i64 b')).frozen? ⟨g, 3, none⟩ = false) ∧ GdAt ((((w.setCell ⟨g, 0, none⟩ (.int .i64 k')).setCell ⟨g, 1, none⟩ (.int .i64 l')).setCell ⟨g, 2, none⟩ (.int .i64 b')).setCell ⟨g, 3, none⟩ (.int .i64 s')) g k' l' b' s' := by
  have e0 : w.heap[g]? = some (.cells #[.int .i64 k, .int .i64 l, .int .i64 b, .int .i64 s] 32 (0, 0)) := h
  have e1 := heap_setCell_same _ g 0 _ _ (.int .i64 k') e0
  have e2 := heap_setCell_same _ g 1 _ _ (.int .i64 l') e1
  have e3 := heap_setCell_same _ g 2 _ _ (.int .i64 b') e2
  have e4 := heap_setCell_same _ g 3 _ _ (.int .i64 s') e3
  exact ⟨⟨cell_of_row _ _ 1 _ _ _ e1, frozen_of_row _ _ 1 _ _ e1⟩, ⟨cell_of_row _ _ 2 _ _ _ e2, frozen_of_row _ _ 2 _ _ e2⟩, ⟨cell_of_row _ _ 3 _ _ _ e3, frozen_of_row _ _ 3 _ _ e3⟩, e4⟩
theorem gd_set {B : Nat} {a w : World} (h : Below B a w) {g : Nat} (hg : B ≤ g) (d0 d1 d2 d3 : Value) : Below B a ((((w.setCell ⟨g, 0, none⟩ d0).setCell ⟨g, 1, none⟩ d1).setCell ⟨g, 2, none⟩ d2).setCell ⟨g, 3, none⟩ d3) :=
  ((((h.setCell (p := ⟨g, 0, none⟩) hg d0).setCell (p := ⟨g, 1, none⟩) hg d1).setCell (p := ⟨g, 2, none⟩) hg d2).setCell (p := ⟨g, 3, none⟩) hg d3)
theorem gdW (w : World) (k l b s : Int) : GdAt ((w.alloc (gdC k l b s)).alloc (gdC 0 0 0 0)) w.heap.size k l b s ∧ GdAt ((w.alloc (gdC k l b s)).alloc (gdC 0 0 0 0)) (w.heap.size + 1) 0 0 0 0 ∧ Below w.heap.size w ((w.alloc (gdC k l b s)).alloc (gdC 0 0 0 0)) :=
  ⟨GdAt.kept (show GdAt (w.alloc (gdC k l b s)) w.heap.size k l b s from heap_alloc_new w _) (awG _ _), new2G w _ _, bl2 (awG _ _) (awG _ _)⟩
end Bw
end Go.Proofs.YtopoogdoepdedaaDoor
namespace Go.Proofs.YtopoogdoepdedaaDoor
open Go.ChangeShapes Go.WideShapes Go.ChangeAt Go.RowKit Go.Sort
namespace Bw
open Bm Cm
theorem add0G (p : Addr) : p.add 0 = p := by unfold Addr.add; simp
theorem add1G (p : Addr) : p.add 1 = ⟨p.block, p.off + 1, none⟩ := by unfold Addr.add; simp
set_option maxHeartbeats 16000000 in
set_option maxRecDepth 100000 in
theorem see_good (key : Nat) (lst b s m : Int) (n : Nat) (a : Option Addr) (len cap : Nat) (l : List UInt8) (w : World) (hR : RulesAt w) (hD : IsBytes w a len cap l) (h2 : 2 ≤ len) (h64 : len ≤ 64) (hk : key ≤ 65535) (hl0 : -1 ≤ lst) (hl1 : lst ≤ 14) (hb0 : 0 ≤ b) (hs : 0 ≤ s ∧ s ≤ 4) (hm : 1 ≤ m ∧ m ≤ 14) (hsum : (l.getD 0 0).toNat = gSum key l) (hn : (l.getD 1 0).toNat % 16 = n) (hn14 : n ≤ 14) (hg : lst = -1 ∨ ((n : Int) - lst + 15) % 15 = 1) :
    Calls Tryd.prog 10 #[gdV key lst b s, .slice a len cap, .int .i64 m] w fun e w' => e = .returned (.tuple #[gdV key (n : Int) 0 1, .int .i64 0]) ∧ Below w.heap.size w w' := by
  cases a with
  | none => exact absurd (hD.2.2.2.1 rfl) (by omega)
  | some x =>
  obtain ⟨hA, hZ, hB⟩ := gdW w (key : Int) lst b s
  have HCK := Hid.mk (fun W => gcheck_ok (key : Int) lst b s W ⟨by omega, by omega⟩ ⟨hl0, hl1⟩ hb0 hs)
  have hWM := fun W => gwithin_any m 1 14 W
  simp only [inG_yes hm] at hWM
  have hSZ := fun W => checkSize_any (some x) len cap W (Nat.le_trans hD.2.1 hD.2.2.1)
  simp only [show szE len = 0 by unfold szE; rw [if_neg (by omega), if_neg (by omega)]] at hSZ
  have HSU := Hid.mk (fun W => sumUnder_any key W (by omega))
  have HS1 := Hid.mk (fun g W (hb : Below w.heap.size w W) (hK : W.cell? ⟨g, 0, none⟩ = some (.string (keyB key))) d os => sum1_any key g x len cap l (grow (redrawn W d) os) (hR.kept (bl2 hb (below_regrown W d os))) (cell_kept (below_regrown W d os) hK) (isBytes_below hD (bl2 hb (below_regrown W d os))) h2 h64)
  have HCT := Hid.mk (fun W => counted_good (key : Int) lst b s (n : Int) m W ⟨hl0, hl1⟩ ⟨by omega, by omega⟩ hg)
  have hd0 := hD.2.2.2.2 x rfl 0 (by omega)
  have hd1 := hD.2.2.2.2 x rfl 1 (by omega)
  rw [add0G] at hd0
  rw [add1G] at hd1
  have HD0 := Hid.mk hd0
  have HD1 := Hid.mk hd1
  obtain ⟨y0, hy0⟩ : ∃ y0, (l.getD 0 0).toNat = y0 := ⟨_, rfl⟩
  obtain ⟨y, hy⟩ : ∃ y, (l.getD 1 0).toNat = y := ⟨_, rfl⟩
  have hy256 : y < 256 := by rw [← hy]; exact UInt8.toNat_lt _
  have hy0256 : y0 < 256 := by rw [← hy0]; exact UInt8.toNat_lt _
  rw [hy0] at HD0
  rw [hy] at HD1
  have hop := and_op hy256
  rw [hy] at hn
  rw [hn] at hop
  rw [hy0] at hsum
  have hSl := gSum_lt key l
  obtain ⟨S, hS⟩ : ∃ S, gSum key l = S := ⟨_, rfl⟩
  rw [hS] at hsum HS1 hSl
  have hS' : (S : Int) ≤ 255 := by omega
  have hn15 : ((n : Int) == 15) = false := by simp; omega
  have hn' : (n : Int) ≤ 14 := by omega
  subst hsum
  clear hS
  have hy' : (y : Int) ≤ 255 := by omega
  have hy0' : (y0 : Int) ≤ 255 := by omega
  have hlen2 : (2 : Int) ≤ (len : Int) := by omega
  have hlen3 : 1 < len := by omega
  have hlen4 : 0 < len := by omega
  have HA := Hid.mk hA
  have HZ := Hid.mk hZ
  have HB := Hid.mk hB
  unfold gdC at HA HZ HB
  unfold gdV at HCK HCT ⊢
  obtain ⟨⟨a0, a1, a2, a3⟩, -⟩ := HA.out.cells
  clear hA hZ hB hD hR hk hl0 hl1 hb0 hs hm hy hy256 hy0 hy0256 hn h64 hd0 hd1 hg hn14 hSl
  generalize keyB key = K at *
  go_enter Tryd.func10, Tryd.ntmps10
  go_wp2_with fail
  refine (HCK.out _).mono ?_
  rintro e w1 ⟨rfl, hb1⟩
  have HA1 := Hid.mk (HA.out.kept hb1)
  have HZ1 := Hid.mk (HZ.out.kept hb1)
  have HB1 := Hid.mk (bl2 HB.out hb1)
  clear hb1 HA HZ HB HCK a0 a1 a2 a3
  obtain ⟨⟨a0, a1, a2, a3⟩, -⟩ := HA1.out.cells
  go_wp2_with fail
  refine (hWM _).mono ?_
  rintro e w2 ⟨rfl, hw2⟩
  rw [hw2]
  clear hw2
  go_wp2_with fail
  refine (hSZ _).mono ?_
  rintro e w2 ⟨rfl, hw2⟩
  rw [hw2]
  clear hw2
  go_wp2_with fail
  refine (HSU.out _).mono ?_
  rintro e w2 ⟨gk, rfl, hK, hb2⟩
  have HA2 := Hid.mk (HA1.out.kept hb2)
  have HZ2 := Hid.mk (HZ1.out.kept hb2)
  have HB2 := Hid.mk (bl2 HB1.out hb2)
  have HK := Hid.mk hK
  clear hb2 HA1 HZ1 HB1 HSU hK hWM hSZ a0 a1 a2 a3
  have d0 := cell_kept HB2.out HD0.out
  have d1 := cell_kept HB2.out HD1.out
  have HS2 := Hid.mk (HS1.out gk w2 HB2.out HK.out)
  have d0r := fun d os => cell_regrown d0 d os
  go_wp2_with fail
  refine wp_region_quiet_below (by kernel_rfl) (by kernel_rfl) ?_
  set_option maxRecDepth 100000 in
  repeat (go_big_quiet_step ((go_at_call 23; exact Calls.regrown_of (HS2.out _ _))))
  refine wpQuiet_nil ?_
  intro _ hw'
  obtain ⟨⟨dq, osq⟩, hw''⟩ := hw'
  have hbq := below_regrown w2 dq osq
  rw [hw'']
  generalize grow (redrawn w2 dq) osq = w3 at *
  have HA3 := Hid.mk (HA2.out.kept hbq)
  have HZ3 := Hid.mk (HZ2.out.kept hbq)
  have HB3 := Hid.mk (bl2 HB2.out hbq)
  clear hw'' hbq HA2 HZ2 HB2 HS2 d0r d0 d1 HS1 HK HD0 HD1
  obtain ⟨⟨a0, a1, a2, a3⟩, -⟩ := HA3.out.cells
  go_wp2_with fail
  refine (HCT.out _).mono ?_
  rintro e w4 ⟨rfl, hb4⟩
  have HB4 := Hid.mk (bl2 HB3.out hb4)
  have hZ4 := HZ3.out.kept hb4
  obtain ⟨⟨z0, z1, z2, z3⟩, y0, y1, y2, y3⟩ := hZ4.cells
  obtain ⟨⟨p1, q1⟩, ⟨p2, q2⟩, ⟨p3, q3⟩, hSX⟩ := hZ4.store (key : Int) (n : Int) 0 1
  have HSX := Hid.mk hSX
  clear hb4 HB3 HZ3 HA3 a0 a1 a2 a3 hSX hZ4 HCT
  go_wp2_with fail
  refine bodyPost_ret (see_res _ _ (w.heap.size + 1) _ _ rfl rfl HSX.out rfl) rfl ?_
  exact ⟨rfl, gd_set HB4.out (Nat.le_succ _) _ _ _ _⟩
set_option maxHeartbeats 16000000 in
set_option maxRecDepth 100000 in
theorem see_same (key : Nat) (lst b s m : Int) (n : Nat) (a : Option Addr) (len cap : Nat) (l : List UInt8) (w : World) (hR : RulesAt w) (hD : IsBytes w a len cap l) (h2 : 2 ≤ len) (h64 : len ≤ 64) (hk : key ≤ 65535) (hl0 : -1 ≤ lst) (hl1 : lst ≤ 14) (hb0 : 0 ≤ b) (hs : 0 ≤ s ∧ s ≤ 4) (hm : 1 ≤ m ∧ m ≤ 14) (hsum : (l.getD 0 0).toNat = gSum key l) (hn : (l.getD 1 0).toNat % 16 = n) (hn14 : n ≤ 14) (hg : lst = (n : Int)) :
    Calls Tryd.prog 10 #[gdV key lst b s, .slice a len cap, .int .i64 m] w fun e w' => e = .returned (.tuple #[gdV key (n : Int) b 3, .int .i64 0]) ∧ Below w.heap.size w w' := by
  cases a with
  | none => exact absurd (hD.2.2.2.1 rfl) (by omega)
  | some x =>
  obtain ⟨hA, hZ, hB⟩ := gdW w (key : Int) lst b s
  have HCK := Hid.mk (fun W => gcheck_ok (key : Int) lst b s W ⟨by omega, by omega⟩ ⟨hl0, hl1⟩ hb0 hs)
  have hWM := fun W => gwithin_any m 1 14 W
  simp only [inG_yes hm] at hWM
  have hSZ := fun W => checkSize_any (some x) len cap W (Nat.le_trans hD.2.1 hD.2.2.1)
  simp only [show szE len = 0 by unfold szE; rw [if_neg (by omega), if_neg (by omega)]] at hSZ
  have HSU := Hid.mk (fun W => sumUnder_any key W (by omega))
  have HS1 := Hid.mk (fun g W (hb : Below w.heap.size w W) (hK : W.cell? ⟨g, 0, none⟩ = some (.string (keyB key))) d os => sum1_any key g x len cap l (grow (redrawn W d) os) (hR.kept (bl2 hb (below_regrown W d os))) (cell_kept (below_regrown W d os) hK) (isBytes_below hD (bl2 hb (below_regrown W d os))) h2 h64)
  have HCT := Hid.mk (fun W => counted_same (key : Int) lst b s (n : Int) m W ⟨by omega, by omega⟩ hg.symm)
  have hd0 := hD.2.2.2.2 x rfl 0 (by omega)
  have hd1 := hD.2.2.2.2 x rfl 1 (by omega)
  rw [add0G] at hd0
  rw [add1G] at hd1
  have HD0 := Hid.mk hd0
  have HD1 := Hid.mk hd1
  obtain ⟨y0, hy0⟩ : ∃ y0, (l.getD 0 0).toNat = y0 := ⟨_, rfl⟩
  obtain ⟨y, hy⟩ : ∃ y, (l.getD 1 0).toNat = y := ⟨_, rfl⟩
  have hy256 : y < 256 := by rw [← hy]; exact UInt8.toNat_lt _
  have hy0256 : y0 < 256 := by rw [← hy0]; exact UInt8.toNat_lt _
  rw [hy0] at HD0
  rw [hy] at HD1
  have hop := and_op hy256
  rw [hy] at hn
  rw [hn] at hop
  rw [hy0] at hsum
  have hSl := gSum_lt key l
  obtain ⟨S, hS⟩ : ∃ S, gSum key l = S := ⟨_, rfl⟩
  rw [hS] at hsum HS1 hSl
  have hS' : (S : Int) ≤ 255 := by omega
  have hn15 : ((n : Int) == 15) = false := by simp; omega
  have hn' : (n : Int) ≤ 14 := by omega
  subst hsum
  clear hS
  have hy' : (y : Int) ≤ 255 := by omega
  have hy0' : (y0 : Int) ≤ 255 := by omega
  have hlen2 : (2 : Int) ≤ (len : Int) := by omega
  have hlen3 : 1 < len := by omega
  have hlen4 : 0 < len := by omega
  have HA := Hid.mk hA
  have HZ := Hid.mk hZ
  have HB := Hid.mk hB
  unfold gdC at HA HZ HB
  unfold gdV at HCK HCT ⊢
  obtain ⟨⟨a0, a1, a2, a3⟩, -⟩ := HA.out.cells
  clear hA hZ hB hD hR hk hl0 hl1 hb0 hs hm hy hy256 hy0 hy0256 hn h64 hd0 hd1 hg hn14 hSl
  generalize keyB key = K at *
  go_enter Tryd.func10, Tryd.ntmps10
  go_wp2_with fail
  refine (HCK.out _).mono ?_
  rintro e w1 ⟨rfl, hb1⟩
  have HA1 := Hid.mk (HA.out.kept hb1)
  have HZ1 := Hid.mk (HZ.out.kept hb1)
  have HB1 := Hid.mk (bl2 HB.out hb1)
  clear hb1 HA HZ HB HCK a0 a1 a2 a3
  obtain ⟨⟨a0, a1, a2, a3⟩, -⟩ := HA1.out.cells
  go_wp2_with fail
  refine (hWM _).mono ?_
  rintro e w2 ⟨rfl, hw2⟩
  rw [hw2]
  clear hw2
  go_wp2_with fail
  refine (hSZ _).mono ?_
  rintro e w2 ⟨rfl, hw2⟩
  rw [hw2]
  clear hw2
  go_wp2_with fail
  refine (HSU.out _).mono ?_
  rintro e w2 ⟨gk, rfl, hK, hb2⟩
  have HA2 := Hid.mk (HA1.out.kept hb2)
  have HZ2 := Hid.mk (HZ1.out.kept hb2)
  have HB2 := Hid.mk (bl2 HB1.out hb2)
  have HK := Hid.mk hK
  clear hb2 HA1 HZ1 HB1 HSU hK hWM hSZ a0 a1 a2 a3
  have d0 := cell_kept HB2.out HD0.out
  have d1 := cell_kept HB2.out HD1.out
  have HS2 := Hid.mk (HS1.out gk w2 HB2.out HK.out)
  have d0r := fun d os => cell_regrown d0 d os
  go_wp2_with fail
  refine wp_region_quiet_below (by kernel_rfl) (by kernel_rfl) ?_
  set_option maxRecDepth 100000 in
  repeat (go_big_quiet_step ((go_at_call 23; exact Calls.regrown_of (HS2.out _ _))))
  refine wpQuiet_nil ?_
  intro _ hw'
  obtain ⟨⟨dq, osq⟩, hw''⟩ := hw'
  have hbq := below_regrown w2 dq osq
  rw [hw'']
  generalize grow (redrawn w2 dq) osq = w3 at *
  have HA3 := Hid.mk (HA2.out.kept hbq)
  have HZ3 := Hid.mk (HZ2.out.kept hbq)
  have HB3 := Hid.mk (bl2 HB2.out hbq)
  clear hw'' hbq HA2 HZ2 HB2 HS2 d0r d0 d1 HS1 HK HD0 HD1
  obtain ⟨⟨a0, a1, a2, a3⟩, -⟩ := HA3.out.cells
  go_wp2_with fail
  refine (HCT.out _).mono ?_
  rintro e w4 ⟨rfl, hb4⟩
  have HB4 := Hid.mk (bl2 HB3.out hb4)
  have hZ4 := HZ3.out.kept hb4
  obtain ⟨⟨z0, z1, z2, z3⟩, y0, y1, y2, y3⟩ := hZ4.cells
  obtain ⟨⟨p1, q1⟩, ⟨p2, q2⟩, ⟨p3, q3⟩, hSX⟩ := hZ4.store (key : Int) (n : Int) b 3
  have HSX := Hid.mk hSX
  clear hb4 HB3 HZ3 HA3 a0 a1 a2 a3 hSX hZ4 HCT
  go_wp2_with fail
  refine bodyPost_ret (see_res _ _ (w.heap.size + 1) _ _ rfl rfl HSX.out rfl) rfl ?_
  exact ⟨rfl, gd_set HB4.out (Nat.le_succ _) _ _ _ _⟩
set_option maxHeartbeats 16000000 in
set_option maxRecDepth 100000 in
theorem see_brk (key : Nat) (lst b s m : Int) (n : Nat) (a : Option Addr) (len cap : Nat) (l : List UInt8) (w : World) (hR : RulesAt w) (hD : IsBytes w a len cap l) (h2 : 2 ≤ len) (h64 : len ≤ 64) (hk : key ≤ 65535) (hl0 : -1 ≤ lst) (hl1 : lst ≤ 14) (hb0 : 0 ≤ b) (hs : 0 ≤ s ∧ s ≤ 4) (hm : 1 ≤ m ∧ m ≤ 14) (hsum : (l.getD 0 0).toNat ≠ gSum key l) (hn : (l.getD 1 0).toNat % 16 = n) (hn14 : n ≤ 14) (hbb : b ≤ 999999) :
    Calls Tryd.prog 10 #[gdV key lst b s, .slice a len cap, .int .i64 m] w fun e w' => e = .returned (.tuple #[gdV key lst (b + 1) 4, .int .i64 0]) ∧ Below w.heap.size w w' := by
  cases a with
  | none => exact absurd (hD.2.2.2.1 rfl) (by omega)
  | some x =>
  obtain ⟨hA, hZ, hB⟩ := gdW w (key : Int) lst b s
  have HCK := Hid.mk (fun W => gcheck_ok (key : Int) lst b s W ⟨by omega, by omega⟩ ⟨hl0, hl1⟩ hb0 hs)
  have hWM := fun W => gwithin_any m 1 14 W
  simp only [inG_yes hm] at hWM
  have hSZ := fun W => checkSize_any (some x) len cap W (Nat.le_trans hD.2.1 hD.2.2.1)
  simp only [show szE len = 0 by unfold szE; rw [if_neg (by omega), if_neg (by omega)]] at hSZ
  have HSU := Hid.mk (fun W => sumUnder_any key W (by omega))
  have HS1 := Hid.mk (fun g W (hb : Below w.heap.size w W) (hK : W.cell? ⟨g, 0, none⟩ = some (.string (keyB key))) d os => sum1_any key g x len cap l (grow (redrawn W d) os) (hR.kept (bl2 hb (below_regrown W d os))) (cell_kept (below_regrown W d os) hK) (isBytes_below hD (bl2 hb (below_regrown W d os))) h2 h64)
  have HCT := Hid.mk (fun W => broken_any (key : Int) lst b s W hb0 hbb)
  have hd0 := hD.2.2.2.2 x rfl 0 (by omega)
  have hd1 := hD.2.2.2.2 x rfl 1 (by omega)
  rw [add0G] at hd0
  rw [add1G] at hd1
  have HD0 := Hid.mk hd0
  have HD1 := Hid.mk hd1
  obtain ⟨y0, hy0⟩ : ∃ y0, (l.getD 0 0).toNat = y0 := ⟨_, rfl⟩
  obtain ⟨y, hy⟩ : ∃ y, (l.getD 1 0).toNat = y := ⟨_, rfl⟩
  have hy256 : y < 256 := by rw [← hy]; exact UInt8.toNat_lt _
  have hy0256 : y0 < 256 := by rw [← hy0]; exact UInt8.toNat_lt _
  rw [hy0] at HD0
  rw [hy] at HD1
  have hop := and_op hy256
  rw [hy] at hn
  rw [hn] at hop
  rw [hy0] at hsum
  have hSl := gSum_lt key l
  obtain ⟨S, hS⟩ : ∃ S, gSum key l = S := ⟨_, rfl⟩
  rw [hS] at hsum HS1 hSl
  have hS' : (S : Int) ≤ 255 := by omega
  have hn15 : ((n : Int) == 15) = false := by simp; omega
  have hn' : (n : Int) ≤ 14 := by omega
  have hne : ((y0 : Int) != (S : Int)) = true := by simp; omega
  clear hS
  have hy' : (y : Int) ≤ 255 := by omega
  have hy0' : (y0 : Int) ≤ 255 := by omega
  have hlen2 : (2 : Int) ≤ (len : Int) := by omega
  have hlen3 : 1 < len := by omega
  have hlen4 : 0 < len := by omega
  have HA := Hid.mk hA
  have HZ := Hid.mk hZ
  have HB := Hid.mk hB
  unfold gdC at HA HZ HB
  unfold gdV at HCK HCT ⊢
  obtain ⟨⟨a0, a1, a2, a3⟩, -⟩ := HA.out.cells
  clear hA hZ hB hD hR hk hl0 hl1 hb0 hs hm hy hy256 hy0 hy0256 hn h64 hd0 hd1 hbb hn14 hsum hSl
  generalize keyB key = K at *
  go_enter Tryd.func10, Tryd.ntmps10
  go_wp2_with fail
  refine (HCK.out _).mono ?_
  rintro e w1 ⟨rfl, hb1⟩
  have HA1 := Hid.mk (HA.out.kept hb1)
  have HZ1 := Hid.mk (HZ.out.kept hb1)
  have HB1 := Hid.mk (bl2 HB.out hb1)
  clear hb1 HA HZ HB HCK a0 a1 a2 a3
  obtain ⟨⟨a0, a1, a2, a3⟩, -⟩ := HA1.out.cells
  go_wp2_with fail
  refine (hWM _).mono ?_
  rintro e w2 ⟨rfl, hw2⟩
  rw [hw2]
  clear hw2
  go_wp2_with fail
  refine (hSZ _).mono ?_
  rintro e w2 ⟨rfl, hw2⟩
  rw [hw2]
  clear hw2
  go_wp2_with fail
  refine (HSU.out _).mono ?_
  rintro e w2 ⟨gk, rfl, hK, hb2⟩
  have HA2 := Hid.mk (HA1.out.kept hb2)
  have HZ2 := Hid.mk (HZ1.out.kept hb2)
  have HB2 := Hid.mk (bl2 HB1.out hb2)
  have HK := Hid.mk hK
  clear hb2 HA1 HZ1 HB1 HSU hK hWM hSZ a0 a1 a2 a3
  have d0 := cell_kept HB2.out HD0.out
  have d1 := cell_kept HB2.out HD1.out
  have HS2 := Hid.mk (HS1.out gk w2 HB2.out HK.out)
  have d0r := fun d os => cell_regrown d0 d os
  go_wp2_with fail
  refine wp_region_quiet_below (by kernel_rfl) (by kernel_rfl) ?_
  set_option maxRecDepth 100000 in
  repeat (go_big_quiet_step ((go_at_call 23; exact Calls.regrown_of (HS2.out _ _))))
  refine wpQuiet_nil ?_
  intro _ hw'
  obtain ⟨⟨dq, osq⟩, hw''⟩ := hw'
  have hbq := below_regrown w2 dq osq
  rw [hw'']
  generalize grow (redrawn w2 dq) osq = w3 at *
  have HA3 := Hid.mk (HA2.out.kept hbq)
  have HZ3 := Hid.mk (HZ2.out.kept hbq)
  have HB3 := Hid.mk (bl2 HB2.out hbq)
  clear hw'' hbq HA2 HZ2 HB2 HS2 d0r d0 d1 HS1 HK HD0 HD1
  obtain ⟨⟨a0, a1, a2, a3⟩, -⟩ := HA3.out.cells
  go_wp2_with fail
  refine (HCT.out _).mono ?_
  rintro e w4 ⟨rfl, hb4⟩
  have HB4 := Hid.mk (bl2 HB3.out hb4)
  have hZ4 := HZ3.out.kept hb4
  obtain ⟨⟨z0, z1, z2, z3⟩, y0, y1, y2, y3⟩ := hZ4.cells
  obtain ⟨⟨p1, q1⟩, ⟨p2, q2⟩, ⟨p3, q3⟩, hSX⟩ := hZ4.store (key : Int) lst (b + 1) 4
  have HSX := Hid.mk hSX
  clear hb4 HB3 HZ3 HA3 a0 a1 a2 a3 hSX hZ4 HCT
  go_wp2_with fail
  refine bodyPost_ret (see_res _ _ (w.heap.size + 1) _ _ rfl rfl HSX.out rfl) rfl ?_
  exact ⟨rfl, gd_set HB4.out (Nat.le_succ _) _ _ _ _⟩
set_option maxHeartbeats 16000000 in
set_option maxRecDepth 100000 in
theorem see_15 (key : Nat) (lst b s m : Int) (a : Option Addr) (len cap : Nat) (l : List UInt8) (w : World) (hR : RulesAt w) (hD : IsBytes w a len cap l) (h2 : 2 ≤ len) (h64 : len ≤ 64) (hk : key ≤ 65535) (hl0 : -1 ≤ lst) (hl1 : lst ≤ 14) (hb0 : 0 ≤ b) (hs : 0 ≤ s ∧ s ≤ 4) (hm : 1 ≤ m ∧ m ≤ 14) (hn : (l.getD 1 0).toNat % 16 = 15) (hbb : b ≤ 999999) :
    Calls Tryd.prog 10 #[gdV key lst b s, .slice a len cap, .int .i64 m] w fun e w' => e = .returned (.tuple #[gdV key lst (b + 1) 4, .int .i64 0]) ∧ Below w.heap.size w w' := by
  cases a with
  | none => exact absurd (hD.2.2.2.1 rfl) (by omega)
  | some x =>
  obtain ⟨hA, hZ, hB⟩ := gdW w (key : Int) lst b s
  have HCK := Hid.mk (fun W => gcheck_ok (key : Int) lst b s W ⟨by omega, by omega⟩ ⟨hl0, hl1⟩ hb0 hs)
  have hWM := fun W => gwithin_any m 1 14 W
  simp only [inG_yes hm] at hWM
  have hSZ := fun W => checkSize_any (some x) len cap W (Nat.le_trans hD.2.1 hD.2.2.1)
  simp only [show szE len = 0 by unfold szE; rw [if_neg (by omega), if_neg (by omega)]] at hSZ
  have HSU := Hid.mk (fun W => sumUnder_any key W (by omega))
  have HS1 := Hid.mk (fun g W (hb : Below w.heap.size w W) (hK : W.cell? ⟨g, 0, none⟩ = some (.string (keyB key))) d os => sum1_any key g x len cap l (grow (redrawn W d) os) (hR.kept (bl2 hb (below_regrown W d os))) (cell_kept (below_regrown W d os) hK) (isBytes_below hD (bl2 hb (below_regrown W d os))) h2 h64)
  have HCT := Hid.mk (fun W => broken_any (key : Int) lst b s W hb0 hbb)
  have hd0 := hD.2.2.2.2 x rfl 0 (by omega)
  have hd1 := hD.2.2.2.2 x rfl 1 (by omega)
  rw [add0G] at hd0
  rw [add1G] at hd1
  have HD0 := Hid.mk hd0
  have HD1 := Hid.mk hd1
  obtain ⟨y0, hy0⟩ : ∃ y0, (l.getD 0 0).toNat = y0 := ⟨_, rfl⟩
  obtain ⟨y, hy⟩ : ∃ y, (l.getD 1 0).toNat = y := ⟨_, rfl⟩
  have hy256 : y < 256 := by rw [← hy]; exact UInt8.toNat_lt _
  have hy0256 : y0 < 256 := by rw [← hy0]; exact UInt8.toNat_lt _
  rw [hy0] at HD0
  rw [hy] at HD1
  have hop := and_op hy256
  rw [hy] at hn
  rw [hn] at hop
  have hy' : (y : Int) ≤ 255 := by omega
  have hy0' : (y0 : Int) ≤ 255 := by omega
  have hlen2 : (2 : Int) ≤ (len : Int) := by omega
  have hlen3 : 1 < len := by omega
  have hlen4 : 0 < len := by omega
  have HA := Hid.mk hA
  have HZ := Hid.mk hZ
  have HB := Hid.mk hB
  unfold gdC at HA HZ HB
  unfold gdV at HCK HCT ⊢
  obtain ⟨⟨a0, a1, a2, a3⟩, -⟩ := HA.out.cells
  clear hA hZ hB hD hR hk hl0 hl1 hb0 hs hm hy hy256 hy0 hy0256 hn h64 hd0 hd1 hbb
  generalize keyB key = K at *
  go_enter Tryd.func10, Tryd.ntmps10
  go_wp2_with fail
  refine (HCK.out _).mono ?_
  rintro e w1 ⟨rfl, hb1⟩
  have HA1 := Hid.mk (HA.out.kept hb1)
  have HZ1 := Hid.mk (HZ.out.kept hb1)
  have HB1 := Hid.mk (bl2 HB.out hb1)
  clear hb1 HA HZ HB HCK a0 a1 a2 a3
  obtain ⟨⟨a0, a1, a2, a3⟩, -⟩ := HA1.out.cells
  go_wp2_with fail
  refine (hWM _).mono ?_
  rintro e w2 ⟨rfl, hw2⟩
  rw [hw2]
  clear hw2
  go_wp2_with fail
  refine (hSZ _).mono ?_
  rintro e w2 ⟨rfl, hw2⟩
  rw [hw2]
  clear hw2
  go_wp2_with fail
  refine (HSU.out _).mono ?_
  rintro e w2 ⟨gk, rfl, hK, hb2⟩
  have HA2 := Hid.mk (HA1.out.kept hb2)
  have HZ2 := Hid.mk (HZ1.out.kept hb2)
  have HB2 := Hid.mk (bl2 HB1.out hb2)
  have HK := Hid.mk hK
  clear hb2 HA1 HZ1 HB1 HSU hK hWM hSZ a0 a1 a2 a3
  have d0 := cell_kept HB2.out HD0.out
  have d1 := cell_kept HB2.out HD1.out
  have HS2 := Hid.mk (HS1.out gk w2 HB2.out HK.out)
  have d0r := fun d os => cell_regrown d0 d os
  go_wp2_with fail
  refine wp_region_quiet_below (by kernel_rfl) (by kernel_rfl) ?_
  set_option maxRecDepth 100000 in
  repeat (go_big_quiet_step (fail))
  refine wpQuiet_nil ?_
  intro _ hw'
  obtain ⟨⟨dq, osq⟩, hw''⟩ := hw'
  have hbq := below_regrown w2 dq osq
  rw [hw'']
  generalize grow (redrawn w2 dq) osq = w3 at *
  have HA3 := Hid.mk (HA2.out.kept hbq)
  have HZ3 := Hid.mk (HZ2.out.kept hbq)
  have HB3 := Hid.mk (bl2 HB2.out hbq)
  clear hw'' hbq HA2 HZ2 HB2 HS2 d0r d0 d1 HS1 HK HD0 HD1
  obtain ⟨⟨a0, a1, a2, a3⟩, -⟩ := HA3.out.cells
  go_wp2_with fail
  refine (HCT.out _).mono ?_
  rintro e w4 ⟨rfl, hb4⟩
  have HB4 := Hid.mk (bl2 HB3.out hb4)
  have hZ4 := HZ3.out.kept hb4
  obtain ⟨⟨z0, z1, z2, z3⟩, y0, y1, y2, y3⟩ := hZ4.cells
  obtain ⟨⟨p1, q1⟩, ⟨p2, q2⟩, ⟨p3, q3⟩, hSX⟩ := hZ4.store (key : Int) lst (b + 1) 4
  have HSX := Hid.mk hSX
  clear hb4 HB3 HZ3 HA3 a0 a1 a2 a3 hSX hZ4 HCT
  go_wp2_with fail
  refine bodyPost_ret (see_res _ _ (w.heap.size + 1) _ _ rfl rfl HSX.out rfl) rfl ?_
  exact ⟨rfl, gd_set HB4.out (Nat.le_succ _) _ _ _ _⟩
end Bw
end Go.Proofs.YtopoogdoepdedaaDoor
namespace Go.Proofs.YtopoogdoepdedaaDoor
open Go.ChangeShapes Go.WideShapes Go.ChangeAt Go.RowKit Go.Sort
namespace Bw
open Bm Cm
def g3C : Obj := .cells #[.int .u8 0, .int .u8 240, .int .u8 5] 5
theorem g3_at (w : World) : IsBytes (w.alloc g3C) (some ⟨w.heap.size, 0, none⟩) 3 3 [0, 240, 5] := by
  refine ⟨rfl, Nat.le_refl _, by unfold maxLen; omega, (fun h => by cases h), fun a ha i hi => ?_⟩
  cases ha
  rw [Addr.add_lit, Nat.zero_add, cell_of_row _ _ i _ _ _ (heap_alloc_new w g3C)]
  match i, hi with
  | 0, _ => rfl
  | 1, _ => rfl
  | 2, _ => rfl
set_option maxHeartbeats 8000000 in
set_option maxRecDepth 100000 in
theorem guarded_any (w : World) (hR : RulesAt w) :
    Calls Tryd.prog 7 #[] w fun e w' => e = .returned (.bool true) ∧ Below w.heap.size w w' := by
  have HA := Hid.mk (awG w g3C)
  have HPUT := Hid.mk (put_ok 7 3 (some ⟨w.heap.size, 0, none⟩) 3 3 [0, 240, 5] (w.alloc g3C) (hR.kept (awG w g3C)) (g3_at w) (by omega) (by omega) (by omega) (by omega))
  obtain ⟨L, hL⟩ : ∃ L, putL 7 3 [0, 240, 5] = L := ⟨_, rfl⟩
  have e0 : (L.getD 0 0).toNat = gSum 7 L := by rw [← hL]; exact putL_at0 (by decide) 7 3
  have e1 : (L.getD 1 0).toNat = 243 := by rw [← hL]; exact putL_at1 (by decide) 7 (show 3 < 16 by omega)
  rw [hL] at HPUT
  have HSEE := Hid.mk (fun g c W (hb : Below w.heap.size w W) (hY : IsBytes W (some ⟨g, 0, none⟩) 3 c L) => see_good 7 2 0 0 1 3 (some ⟨g, 0, none⟩) 3 c L W (hR.kept hb) hY (by omega) (by omega) (by omega) (by omega) (by omega) (by omega) ⟨by omega, by omega⟩ ⟨by omega, by omega⟩ e0 (by rw [e1]) (by omega) (Or.inr (by decide)))
  have hLn : L.length = 3 := by rw [← hL, putL_len]; rfl
  have hat := cells_atG L 1 (by omega)
  rw [e1] at hat
  have HAT := Hid.mk hat
  unfold gdV at HSEE
  unfold g3C at HA HPUT
  clear hR hL e0 e1 hLn hat
  go_enter Tryd.func7, Tryd.ntmps7
  go_wp2_with fail
  refine HPUT.out.mono ?_
  rintro e w1 ⟨g, c, rfl, hown, -, hb1⟩
  have HB1 := Hid.mk (bl2 HA.out hb1)
  have HO1 := Hid.mk hown
  have HSS := Hid.mk (HSEE.out g c w1 HB1.out (isBytes_ownG hown))
  clear hown hb1 HPUT HSEE HA
  go_wp2_with fail
  refine HSS.out.mono ?_
  rintro e w2 ⟨rfl, hb2⟩
  have HB2 := Hid.mk (bl2 HB1.out hb2)
  have HO2 := Hid.mk (ownsRow_below HO1.out hb2)
  have HA2 := Hid.mk (awG w2 (gdC 7 3 0 1))
  have hc := (ownsRow_below HO2.out HA2.out).cellAt 1 (by omega)
  rw [HAT.out] at hc
  have HB3 := Hid.mk (bl2 HB2.out HA2.out)
  unfold gdC at hc HB3
  clear hb2 HSS HO1 HB1 HA2
  go_wp2_with fail
  go_ret
  exact ⟨rfl, HB3.out⟩
end Bw
end Go.Proofs.YtopoogdoepdedaaDoor
