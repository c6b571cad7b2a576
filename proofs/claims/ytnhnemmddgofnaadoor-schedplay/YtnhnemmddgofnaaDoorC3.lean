/- What bits.Bytes answers of any text: the bytes that a row of whole bytes tells, in new memory, and else which error. -/
import Derived.Test.YtnhnemmddgofnaaDoorC1
import Derived.Test.YtnhnemmddgofnaaDoorChecked
import Derived.WalkKit
import Derived.ProofKit
import Derived.Lib.OthersKept
import Derived.Deep.QuietTactic
import Derived.BigQuiet
namespace Go.Proofs.YtnhnemmddgofnaaDoor
open Go.ChangeShapes Go.WideShapes Go.ChangeAt Go.RowKit
namespace Bw
open Bm

set_option maxHeartbeats 2000000 in
theorem appendBits_any (v : Value) (k : Nat) (l : List UInt8) (n size : Nat) (w : World) (base : Nat) (hb : base ≤ w.heap.size) (hl : l.length = k) (hk : k ≤ 100000)
    (hn : n < 2 ^ 63) (hsize : size ≤ 62) (hown : w.ownsRow base 5 1 v k (cellsOf l)) :
    Calls Tryd.prog 75 #[v, .int .i64 n, .int .i64 size] w fun e w' => ∃ v', e = .returned v' ∧ w'.ownsRow base 5 1 v' (k + size) (cellsOf (l ++ bitsHead n size size)) ∧ Below base w w' := by
  obtain ⟨i0, hi, hz0, hz1, hz2⟩ := info_parts info_u8
  go_enter Tryd.func75, Tryd.ntmps75
  go_wp2
  go_loopw [0, 9] (fun r i wr => ∃ j : Nat, j ≤ size ∧ i = .int .i64 j ∧ wr.ownsRow base 5 1 r (k + j) (cellsOf (l ++ bitsHead n size j)) ∧ Below base w wr) (fun _ i _ => size - (intOf i).toNat)
  case atStart => exact ⟨0, Nat.zero_le _, rfl, by simpa [bitsHead] using hown, Below.refl _ _⟩
  case round =>
    obtain ⟨j, hj, rfl, hownr, hbel⟩ := hrel
    by_cases hlt : j < size
    · have HV : Hid (Value.int .u8 ((48 + bits .and .i64 ((n : Int) / 2 ^ (size - 1 - j)) 1) % 256) = Value.int .u8 (bitAt n (size - 1 - j)).toNat) := bit_cell n (size - 1 - j) hn
      have hlen : base ≤ wr.heap.size := Nat.le_trans hb hbel.size
      go_wp2_with (at_builtin; refine wpList_append_own _ rfl (.tmp 12) (.tmp 22) 78 rfl base 5 i0 (.int .u8 0) 1 1 Tryd.underlying78 hi hz0 hz1 hz2 rfl (by decide) _ _ _ rfl (hownr.alloc _) ⟨wr.heap.size, 0, none⟩ 1 1 [Value.int .u8 ((48 + bits .and .i64 ((n : Int) / 2 ^ (size - 1 - j)) 1) % 256)] rfl rfl (by intro q u hq; match q, hq with | 0, hq => (simp at hq; subst hq; simp [Addr.add])) (by intro u hu; simp at hu; subst hu; rfl) (by unfold maxLen; omega) (by omega) (by simp; omega) ?_; intro v' w1 hown' hgrow _)
      have hbel1 : Below base w w1 := Below.grown (hbel.alloc hlen _) hgrow (by simp; omega) (fun q hq => (hownr.lt q hq).1)
      have hown2 : w1.ownsRow base 5 1 v' (k + (j + 1)) (cellsOf (l ++ bitsHead n size (j + 1))) := by
        rw [bitsHead_succ, ← List.append_assoc, cellsOf_append _ [_]]
        have e : cellsOf [bitAt n (size - 1 - j)] = [Value.int .u8 ((48 + bits .and .i64 ((n : Int) / 2 ^ (size - 1 - j)) 1) % 256)] := by rw [HV.out]; rfl
        rw [e]; exact hown'
      clear hown' hgrow hownr
      go_wp2
      go_roundw
      case rel => exact ⟨j + 1, by omega, by go_num, hown2, hbel1⟩
      case measure => simp [intOf]; omega
    · have e : j = size := by omega
      subst e
      go_wp2_with fail
      go_ret
      exact ⟨_, rfl, hownr, hbel⟩

set_option maxHeartbeats 1000000 in
theorem row_many (n size : Int) (w : World) (h : size < 0 ∨ 62 < size) :
    Calls Tryd.prog 59 #[.int .i64 n, .int .i64 size] w fun e w' => e = .returned (.tuple #[.string ⟨#[]⟩, .int .i64 2]) ∧ w' = w := by
  by_cases h1 : size < 0
  · go_enter Tryd.func59, Tryd.ntmps59
    go_wp2_with fail
    go_ret2
    exact ⟨rfl, rfl⟩
  · have h2 : 62 < size := by omega
    clear h
    have hd : decide (size < 0) = false := by simpa using h1
    go_enter Tryd.func59, Tryd.ntmps59
    go_wp2_with fail
    go_ret2
    exact ⟨rfl, rfl⟩

set_option maxHeartbeats 1000000 in
theorem row_range (n size : Int) (w : World) (h0 : 0 ≤ size) (h1 : size ≤ 62) (h : n < 0 ∨ 2 ^ size.toNat ≤ n) :
    Calls Tryd.prog 59 #[.int .i64 n, .int .i64 size] w fun e w' => e = .returned (.tuple #[.string ⟨#[]⟩, .int .i64 3]) ∧ w' = w := by
  by_cases hn : n < 0
  · clear h
    go_enter Tryd.func59, Tryd.ntmps59
    go_wp2_with fail
    go_ret2
    exact ⟨rfl, rfl⟩
  · have h2 : 2 ^ size.toNat ≤ n := by omega
    have hq : (n / 2 ^ size.toNat == 0) = false := by
      have hp : (0 : Int) < 2 ^ size.toNat := Int.pow_pos (by omega)
      have : 1 ≤ n / 2 ^ size.toNat := (Int.le_ediv_iff_mul_le hp).2 (by omega)
      simp; omega
    clear h h2
    go_enter Tryd.func59, Tryd.ntmps59
    go_wp2_with fail
    go_ret2
    exact ⟨rfl, rfl⟩

set_option maxHeartbeats 1000000 in
theorem row_ok (n size : Nat) (w : World) (h1 : size ≤ 62) (h : n < 2 ^ size) :
    Calls Tryd.prog 59 #[.int .i64 n, .int .i64 size] w fun e w' => e = .returned (.tuple #[.string ⟨(bitsHead n size size).toArray⟩, .int .i64 0]) ∧ Below w.heap.size w w' := by
  have hq : (n : Int) / 2 ^ size = 0 := by
    have : n / 2 ^ size = 0 := Nat.div_eq_of_lt h
    have e : (n : Int) / 2 ^ size = ((n / 2 ^ size : Nat) : Int) := by simp
    rw [e, this]; rfl
  have hn : n < 2 ^ 63 := Nat.lt_of_lt_of_le h (Nat.pow_le_pow_right (by omega) (by omega))
  have HN : Hid (n < 2 ^ 63) := hn
  clear h hn
  go_enter Tryd.func59, Tryd.ntmps59
  go_wp2_with fail
  refine (appendBits_any (.slice none 0 0) 0 [] n size w w.heap.size (Nat.le_refl _) rfl (by omega) HN.out h1 (World.ownsRow_nil _ _ _ _)).mono ?_
  rintro e w1 ⟨v', rfl, hown, hbel⟩
  have hcv := convert_own hown
  clear hown
  go_wp2_with fail
  go_ret2
  exact ⟨rfl, hbel⟩
end Bw
end Go.Proofs.YtnhnemmddgofnaaDoor
namespace Go.Proofs.YtnhnemmddgofnaaDoor
open Go.ChangeShapes Go.WideShapes Go.ChangeAt Go.RowKit
namespace Bw
open Bm

set_option maxHeartbeats 1000000 in
theorem of_many (a : Option Addr) (len cap : Nat) (w : World) (hl : 125 < len) (hm : len ≤ maxLen) :
    Calls Tryd.prog 60 #[.slice a len cap] w fun e w' => e = .returned (.tuple #[.string ⟨#[]⟩, .int .i64 2]) ∧ w' = w := by
  unfold maxLen at hm
  go_enter Tryd.func60, Tryd.ntmps60
  go_wp2_with fail
  go_ret2
  exact ⟨rfl, rfl⟩

set_option maxHeartbeats 2000000 in
theorem of_any (a : Option Addr) (len cap : Nat) (l : List UInt8) (w : World) (hl : len ≤ 125) (hr : IsBytes w a len cap l) :
    Calls Tryd.prog 60 #[.slice a len cap] w fun e w' => e = .returned (.tuple #[.string ⟨(ofL l).toArray⟩, .int .i64 0]) ∧ Below w.heap.size w w' := by
  obtain ⟨hlen, _, _, hnil, hcells⟩ := hr
  have HC : Hid (∀ x, a = some x → ∀ i, i < len → w.cell? (x.add i) = some (.int .u8 (l.getD i 0).toNat)) := hcells
  have HN : Hid (a = none → len = 0) := hnil
  have HL : Hid (l.length = len) := hlen
  clear hcells hnil hlen
  go_enter Tryd.func60, Tryd.ntmps60
  go_wp2_with fail
  go_loopw [4, 12] (fun r i wr => ∃ k : Nat, k ≤ len ∧ i = .int .i64 k ∧ wr.ownsRow w.heap.size 5 1 r (8 * k) (cellsOf (ofL (l.take k))) ∧ Below w.heap.size w wr) (fun _ i _ => len - (intOf i).toNat)
  case atStart => exact ⟨0, Nat.zero_le _, rfl, by simpa [ofL, cellsOf] using World.ownsRow_nil _ _ _ _, Below.refl _ _⟩
  case round =>
    obtain ⟨k, hk, rfl, hown, hbel⟩ := hrel
    by_cases hlt : k < len
    · cases a with
      | none => exact absurd (HN.out rfl) (by omega)
      | some x =>
        have hc := cell_kept hbel (HC.out x rfl k hlt)
        have hlt' : (k : Int) < (len : Int) := by omega
        obtain ⟨c, hcE⟩ : ∃ c, c = l.getD k 0 := ⟨_, rfl⟩
        rw [← hcE] at hc
        have HE : Hid (c = l.getD k 0) := hcE
        clear hcE
        have hcb : (c.toNat : Int) ≤ 255 := by have := c.toNat_lt; omega
        go_wp2_with fail
        refine (appendBits_any u4 (8 * k) (ofL (l.take k)) c.toNat 8 wr w.heap.size hbel.size ?_ (by omega) (by omega) (by omega) hown).mono ?_
        · rw [ofL_length, List.length_take]; have := HL.out; omega
        rintro e w1 ⟨v', rfl, hown1, hbel1⟩
        have hown2 : w1.ownsRow w.heap.size 5 1 v' (8 * (k + 1)) (cellsOf (ofL (l.take (k + 1)))) := by
          rw [take_snocL l k (by have := HL.out; omega), ofL_snoc, ← HE.out]
          exact hown1
        clear hown1 hown
        go_wp2_with fail
        go_roundw
        case rel => exact ⟨k + 1, by omega, by go_num, hown2, hbel.trans hbel1⟩
        case measure => simp [intOf]; omega
    · have e : k = len := by omega
      subst e
      have hcv := convert_own hown
      rw [List.take_of_length_le (by have := HL.out; omega)] at hcv
      clear hown
      go_wp2_with fail
      go_ret2
      exact ⟨rfl, hbel⟩
end Bw
end Go.Proofs.YtnhnemmddgofnaaDoor
namespace Go.Proofs.YtnhnemmddgofnaaDoor
open Go.ChangeShapes Go.WideShapes Go.ChangeAt Go.RowKit
namespace Bw
open Bm

def fewE (l : List UInt8) : Int := if rowB l then 0 else 4
theorem below_iter (w : World) (s : ByteArray) (pos : Nat) : Below w.heap.size w (w.iter s pos) := (Below.refl _ _).alloc (Nat.le_refl _) _

set_option maxHeartbeats 400000 in
theorem isBit_yes (r : Int) (w : World) (h : r = 48 ∨ r = 49) :
    Calls Tryd.prog 93 #[.int .i32 r] w fun e w' => e = .returned (.bool true) ∧ w' = w := by
  rcases h with rfl | rfl <;> (go_enter Tryd.func93, Tryd.ntmps93; go_wp2; go_ret; exact ⟨rfl, rfl⟩)
set_option maxHeartbeats 400000 in
theorem isBit_no (r : Int) (w : World) (h : r ≠ 48 ∧ r ≠ 49) :
    Calls Tryd.prog 93 #[.int .i32 r] w fun e w' => e = .returned (.bool false) ∧ w' = w := by
  obtain ⟨h1, h2⟩ := h
  have g1 : (r == 48) = false := by simpa using h1
  have g2 : (r == 49) = false := by simpa using h2
  clear h1 h2
  go_enter Tryd.func93, Tryd.ntmps93
  go_wp2
  go_ret
  exact ⟨rfl, rfl⟩

set_option maxHeartbeats 1000000 in
theorem check_many (s : ByteArray) (w : World) (hs : s.size ≤ maxLen) (hm : 1000 < s.size) :
    Calls Tryd.prog 78 #[.string s] w fun e w' => e = .returned (.int .i64 2) ∧ w' = w := by
  unfold maxLen at hs
  go_enter Tryd.func78, Tryd.ntmps78
  go_wp2
  go_ret
  exact ⟨rfl, rfl⟩

set_option maxHeartbeats 1000000 in
theorem check_few (s : ByteArray) (w : World) (hm : s.size ≤ 1000) :
    Calls Tryd.prog 78 #[.string s] w fun e w' => e = .returned (.int .i64 (fewE s.data.toList)) ∧ Below w.heap.size w w' := by
  go_enter Tryd.func78, Tryd.ntmps78
  go_wp2
  go_loopw [4] (fun _ w' => ∃ pos : Nat, w' = w.iter s pos ∧ pos ≤ s.size ∧ rowB (s.data.toList.take pos) = true) (fun _ w' => s.size - w'.iterPos w.heap.size)
  case atStart => exact ⟨0, rfl, Nat.zero_le _, rfl⟩
  case round =>
    obtain ⟨pos, rfl, hpos, hrow⟩ := hrel
    have HR : Hid (rowB (s.data.toList.take pos) = true) := hrow
    clear hrow
    by_cases hp : pos < s.size
    · by_cases hb : bit s[pos] = true
      · have ha : (s[pos]'hp).toNat < 128 := by rcases (bit_iff _).1 hb with h | h <;> omega
        have hb' := (bit_iff _).1 hb
        have hnx : ∀ ty, (Instr.next (.pointer (some ⟨w.heap.size, 0, none⟩)) true ty).run Tryd.prog (w.iter s pos) = _ := fun ty => run_next_ascii w s pos ty hp ha
        have HB : Hid (bit s[pos] = true) := hb
        clear hb
        go_wp2_with (go_at_call 93; refine (isBit_yes _ _ hb').mono ?_; rintro e w' ⟨rfl, rfl⟩)
        go_roundw
        case rel => exact ⟨pos + 1, rfl, by omega, by rw [take_snoc s pos hp, rowB_snoc, HR.out, HB.out]; rfl⟩
        case measure => simp; omega
      · have hb0 : bit s[pos] = false := by simpa using hb
        have hne : (((Utf8.decode s pos).1 : Nat) : Int) ≠ 48 ∧ (((Utf8.decode s pos).1 : Nat) : Int) ≠ 49 := by
          by_cases ha : (s[pos]'hp).toNat < 128
          · rw [decode_ascii s pos hp ha]
            have hx : ¬ ((s[pos].toNat : Int) = 48 ∨ (s[pos].toNat : Int) = 49) := fun h => hb ((bit_iff s[pos]).2 h)
            simp only; omega
          · have := (decode_high s pos hp (by omega)).1; omega
        have HB : Hid (rowB s.data.toList = false) := rowB_not pos hp hb0
        have hnx : ∀ ty, (Instr.next (.pointer (some ⟨w.heap.size, 0, none⟩)) true ty).run Tryd.prog (w.iter s pos) = _ := fun ty => run_next_any w s pos ty hp
        clear hb hb0
        go_wp2_with (go_at_call 93; refine (isBit_no _ _ hne).mono ?_; rintro e w' ⟨rfl, rfl⟩)
        go_ret
        exact ⟨by rw [fewE, HB.out]; rfl, below_iter _ _ _⟩
    · have hnx : ∀ ty, (Instr.next (.pointer (some ⟨w.heap.size, 0, none⟩)) true ty).run Tryd.prog (w.iter s pos) = _ := fun ty => run_next_end w s pos ty hp
      have HB : Hid (rowB s.data.toList = true) := by
        have := HR.out
        rwa [List.take_of_length_le (by simp; omega)] at this
      go_wp2
      go_ret
      exact ⟨by rw [fewE, HB.out]; rfl, below_iter _ _ _⟩

theorem check_any (s : ByteArray) (w : World) (hs : s.size ≤ maxLen) :
    Calls Tryd.prog 78 #[.string s] w fun e w' => e = .returned (.int .i64 (checkE s.data.toList)) ∧ Below w.heap.size w w' := by
  unfold checkE
  by_cases hm : 1000 < s.size
  · rw [if_pos (by simpa using hm)]
    refine (check_many s w hs hm).mono ?_
    rintro e w' ⟨rfl, rfl⟩; exact ⟨rfl, Below.refl _ _⟩
  · rw [if_neg (by simpa using hm)]
    exact check_few s w (by omega)

end Bw
end Go.Proofs.YtnhnemmddgofnaaDoor
namespace Go.Proofs.YtnhnemmddgofnaaDoor
open Go.ChangeShapes Go.WideShapes Go.ChangeAt Go.RowKit
namespace Bw
open Bm

theorem or_one (n : Nat) (d : Int) (hn : n < 2 ^ 61) (hd : d = 48 ∨ d = 49) : bits .or .i64 (wrap64 ((n : Int) * 2)) (d - 48) = 2 * (n : Int) + (d - 48) := by
  have e : wrap64 ((n : Int) * 2) = (n : Int) * 2 := by unfold wrap64; omega
  rw [e, bits_join .i64 63 (by decide) (fun n h0 h1 => by rw [IntKind.wrap_i64]; omega) 1 _ _ (by omega) (by omega) (by omega) (by omega) (by omega) (by omega)]
  omega

def numE (l : List UInt8) : Int := if checkE l = 0 then (if 62 < l.length then 2 else 0) else checkE l
def numV (l : List UInt8) : Int := if numE l = 0 then val l else 0

theorem number_shape (s : ByteArray) : (checkE s.data.toList = 0 ∧ s.size ≤ 62 ∧ rowB s.data.toList = true ∧ numE s.data.toList = 0 ∧ numV s.data.toList = val s.data.toList) ∨
    (checkE s.data.toList = 0 ∧ 62 < s.size ∧ numE s.data.toList = 2 ∧ numV s.data.toList = 0) ∨
    (checkE s.data.toList ≠ 0 ∧ numE s.data.toList = checkE s.data.toList ∧ numV s.data.toList = 0) := by
  by_cases h : checkE s.data.toList = 0
  · have hr : rowB s.data.toList = true := by
      unfold checkE at h
      by_cases h1 : 1000 < s.data.toList.length
      · rw [if_pos h1] at h; omega
      · rw [if_neg h1] at h
        cases e : rowB s.data.toList with
        | true => rfl
        | false => rw [e] at h; simp at h
    by_cases h2 : 62 < s.size
    · have e : numE s.data.toList = 2 := by unfold numE; rw [if_pos h, if_pos (by simpa using h2)]
      exact Or.inr (Or.inl ⟨h, h2, e, by unfold numV; rw [e]; rfl⟩)
    · have e : numE s.data.toList = 0 := by unfold numE; rw [if_pos h, if_neg (by simpa using h2)]
      exact Or.inl ⟨h, by omega, hr, e, by unfold numV; rw [e]; rfl⟩
  · have e : numE s.data.toList = checkE s.data.toList := by unfold numE; rw [if_neg h]
    exact Or.inr (Or.inr ⟨h, e, by unfold numV; rw [e, if_neg h]⟩)

end Bw
end Go.Proofs.YtnhnemmddgofnaaDoor
namespace Go.Proofs.YtnhnemmddgofnaaDoor
open Go.ChangeShapes Go.WideShapes Go.ChangeAt Go.RowKit
namespace Bw
open Bm

def byteAt (l : List UInt8) (i : Nat) : UInt8 := UInt8.ofNat (val ((l.drop (8 * i)).take 8))
def partL (l : List UInt8) (n k : Nat) : List UInt8 := (List.range n).map fun i => if i < k then byteAt l i else 0
def bytesL (l : List UInt8) : List UInt8 := (List.range (l.length / 8)).map (byteAt l)

theorem partL_length (l : List UInt8) (n k : Nat) : (partL l n k).length = n := by simp [partL]
theorem partL_zero (l : List UInt8) (n : Nat) : cellsOf (partL l n 0) = List.replicate n (Value.int .u8 0) := by
  apply List.ext_getElem?
  intro j
  by_cases hj : j < n <;> simp [partL, cellsOf, hj]
theorem partL_succ (l : List UInt8) (n k : Nat) : (cellsOf (partL l n k)).set k (.int .u8 (byteAt l k).toNat) = cellsOf (partL l n (k + 1)) := by
  apply List.ext_getElem?
  intro j
  rw [List.getElem?_set]
  by_cases hj : j < n
  · by_cases hjk : k = j
    · subst hjk; simp [partL, cellsOf, hj]
    · have h1 : (j < k + 1) = (j < k) := by simp; omega
      simp [partL, cellsOf, hj, hjk, h1]
  · simp [partL, cellsOf, hj]; omega
theorem partL_full (l : List UInt8) (n : Nat) (h : l.length / 8 = n) : partL l n n = bytesL l := by
  unfold partL bytesL
  rw [h]
  apply List.map_congr_left
  intro i hi
  rw [if_pos (by simpa using hi)]

end Bw
end Go.Proofs.YtnhnemmddgofnaaDoor
