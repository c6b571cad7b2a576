/- What bits.Bytes answers of any text: the bytes that a row of whole bytes tells, in new memory, and else which error. -/
import Derived.Test.YtfomempleaceiaaDoorChecked
import Derived.Test.YtfomempleaceiaaDoorC1
import Derived.WalkKit
import Derived.ProofKit
import Derived.Lib.OthersKept
import Derived.Deep.QuietTactic
import Derived.BigQuiet
namespace Go.Proofs.YtfomempleaceiaaDoor
open Go.ChangeShapes Go.WideShapes Go.ChangeAt Go.RowKit
namespace Bw
open Bm

def fewE (l : List UInt8) : Int := if rowB l then 0 else 4
theorem below_iter (w : World) (s : ByteArray) (pos : Nat) : Below w.heap.size w (w.iter s pos) := (Below.refl _ _).alloc (Nat.le_refl _) _

set_option maxHeartbeats 400000 in
theorem isBit_yes (r : Int) (w : World) (h : r = 48 ∨ r = 49) :
    Calls Tryd.prog 59 #[.int .i32 r] w fun e w' => e = .returned (.bool true) ∧ w' = w := by
  rcases h with rfl | rfl <;> (go_enter Tryd.func59, Tryd.ntmps59; go_wp2; go_ret; exact ⟨rfl, rfl⟩)
set_option maxHeartbeats 400000 in
theorem isBit_no (r : Int) (w : World) (h : r ≠ 48 ∧ r ≠ 49) :
    Calls Tryd.prog 59 #[.int .i32 r] w fun e w' => e = .returned (.bool false) ∧ w' = w := by
  obtain ⟨h1, h2⟩ := h
  have g1 : (r == 48) = false := by simpa using h1
  have g2 : (r == 49) = false := by simpa using h2
  clear h1 h2
  go_enter Tryd.func59, Tryd.ntmps59
  go_wp2
  go_ret
  exact ⟨rfl, rfl⟩

set_option maxHeartbeats 1000000 in
theorem check_many (s : ByteArray) (w : World) (hs : s.size ≤ maxLen) (hm : 1000 < s.size) :
    Calls Tryd.prog 33 #[.string s] w fun e w' => e = .returned (.int .i64 2) ∧ w' = w := by
  unfold maxLen at hs
  go_enter Tryd.func33, Tryd.ntmps33
  go_wp2
  go_ret
  exact ⟨rfl, rfl⟩

set_option maxHeartbeats 1000000 in
theorem check_few (s : ByteArray) (w : World) (hm : s.size ≤ 1000) :
    Calls Tryd.prog 33 #[.string s] w fun e w' => e = .returned (.int .i64 (fewE s.data.toList)) ∧ Below w.heap.size w w' := by
  go_enter Tryd.func33, Tryd.ntmps33
  go_wp2
  go_loopw [4] (fun _ w' => ∃ pos : Nat, w' = w.iter s pos ∧ pos ≤ s.size ∧ rowB (s.data.toList.take pos) = true) (fun _ w' => s.size - w'.iterPos w.heap.size)
  case atStart => exact ⟨0, rfl, Nat.zero_le _, rfl⟩
  case round =>
    obtain ⟨pos, rfl, hpos, hrow⟩ := hrel
    have HR : Hid (rowB (s.data.toList.take pos) = true) := hrow
    clear hrow
    by_cases hp : pos < s.size
    · by_cases hb : bit s[pos] = true
      · have ha : (s[pos]'hp).toNat < 128 := by rcases (bit_iff _).1 hb with h | h <;> omega
        have hb' := (bit_iff _).1 hb
        have hnx : ∀ ty, (Instr.next (.pointer (some ⟨w.heap.size, 0, none⟩)) true ty).run Tryd.prog (w.iter s pos) = _ := fun ty => run_next_ascii w s pos ty hp ha
        have HB : Hid (bit s[pos] = true) := hb
        clear hb
        go_wp2_with (go_at_call 59; refine (isBit_yes _ _ hb').mono ?_; rintro e w' ⟨rfl, rfl⟩)
        go_roundw
        case rel => exact ⟨pos + 1, rfl, by omega, by rw [take_snoc s pos hp, rowB_snoc, HR.out, HB.out]; rfl⟩
        case measure => simp; omega
      · have hb0 : bit s[pos] = false := by simpa using hb
        have hne : (((Utf8.decode s pos).1 : Nat) : Int) ≠ 48 ∧ (((Utf8.decode s pos).1 : Nat) : Int) ≠ 49 := by
          by_cases ha : (s[pos]'hp).toNat < 128
          · rw [decode_ascii s pos hp ha]
            have hx : ¬ ((s[pos].toNat : Int) = 48 ∨ (s[pos].toNat : Int) = 49) := fun h => hb ((bit_iff s[pos]).2 h)
            simp only; omega
          · have := (decode_high s pos hp (by omega)).1; omega
        have HB : Hid (rowB s.data.toList = false) := rowB_not pos hp hb0
        have hnx : ∀ ty, (Instr.next (.pointer (some ⟨w.heap.size, 0, none⟩)) true ty).run Tryd.prog (w.iter s pos) = _ := fun ty => run_next_any w s pos ty hp
        clear hb hb0
        go_wp2_with (go_at_call 59; refine (isBit_no _ _ hne).mono ?_; rintro e w' ⟨rfl, rfl⟩)
        go_ret
        exact ⟨by rw [fewE, HB.out]; rfl, below_iter _ _ _⟩
    · have hnx : ∀ ty, (Instr.next (.pointer (some ⟨w.heap.size, 0, none⟩)) true ty).run Tryd.prog (w.iter s pos) = _ := fun ty => run_next_end w s pos ty hp
      have HB : Hid (rowB s.data.toList = true) := by
        have := HR.out
        rwa [List.take_of_length_le (by simp; omega)] at this
      go_wp2
      go_ret
      exact ⟨by rw [fewE, HB.out]; rfl, below_iter _ _ _⟩

theorem check_any (s : ByteArray) (w : World) (hs : s.size ≤ maxLen) :
    Calls Tryd.prog 33 #[.string s] w fun e w' => e = .returned (.int .i64 (checkE s.data.toList)) ∧ Below w.heap.size w w' := by
  unfold checkE
  by_cases hm : 1000 < s.size
  · rw [if_pos (by simpa using hm)]
    refine (check_many s w hs hm).mono ?_
    rintro e w' ⟨rfl, rfl⟩; exact ⟨rfl, Below.refl _ _⟩
  · rw [if_neg (by simpa using hm)]
    exact check_few s w (by omega)

end Bw
end Go.Proofs.YtfomempleaceiaaDoor
namespace Go.Proofs.YtfomempleaceiaaDoor
open Go.ChangeShapes Go.WideShapes Go.ChangeAt Go.RowKit
namespace Bw
open Bm

theorem or_one (n : Nat) (d : Int) (hn : n < 2 ^ 61) (hd : d = 48 ∨ d = 49) : bits .or .i64 (wrap64 ((n : Int) * 2)) (d - 48) = 2 * (n : Int) + (d - 48) := by
  have e : wrap64 ((n : Int) * 2) = (n : Int) * 2 := by unfold wrap64; omega
  rw [e, bits_join .i64 63 (by decide) (fun n h0 h1 => by rw [IntKind.wrap_i64]; omega) 1 _ _ (by omega) (by omega) (by omega) (by omega) (by omega) (by omega)]
  omega

set_option maxHeartbeats 1000000 in
theorem value_any (s : ByteArray) (w : World) (hm : s.size ≤ 62) (hrow : rowB s.data.toList = true) :
    Calls Tryd.prog 80 #[.string s] w fun e w' => e = .returned (.int .i64 (val s.data.toList)) ∧ Below w.heap.size w w' := by
  have HR : Hid (rowB s.data.toList = true) := hrow
  clear hrow
  go_enter Tryd.func80, Tryd.ntmps80
  go_wp2
  go_loopw [3] (fun n w' => ∃ pos : Nat, w' = w.iter s pos ∧ pos ≤ s.size ∧ n = .int .i64 (val (s.data.toList.take pos))) (fun _ w' => s.size - w'.iterPos w.heap.size)
  case atStart => exact ⟨0, rfl, Nat.zero_le _, rfl⟩
  case round =>
    obtain ⟨pos, rfl, hpos, rfl⟩ := hrel
    by_cases hp : pos < s.size
    · have hb := rowB_at HR.out pos hp
      have ha : (s[pos]'hp).toNat < 128 := by rcases (bit_iff _).1 hb with h | h <;> omega
      have hb' := (bit_iff _).1 hb
      have hnx : ∀ ty, (Instr.next (.pointer (some ⟨w.heap.size, 0, none⟩)) true ty).run Tryd.prog (w.iter s pos) = _ := fun ty => run_next_ascii w s pos ty hp ha
      have HN : Hid (∀ d : Int, d = 48 ∨ d = 49 → d = s[pos].toNat → bits .or .i64 (wrap64 ((val (s.data.toList.take pos) : Int) * 2)) (d - 48) = (val (s.data.toList.take (pos + 1)) : Int)) := by
        intro d hd hd'
        have hv := val_lt _ (rowB_take HR.out pos)
        have hl : (s.data.toList.take pos).length ≤ 61 := by rw [List.length_take]; omega
        have h2 : (2 : Nat) ^ (s.data.toList.take pos).length ≤ 2 ^ 61 := Nat.pow_le_pow_right (by omega) hl
        rw [take_snoc s pos hp, val_snoc, or_one _ _ (by omega) hd, hd', (bit_dig hb).2.symm]
        omega
      clear hb
      go_wp2
      go_roundw
      case rel => exact ⟨pos + 1, rfl, by omega, int_eq (HN.out _ hb' rfl)⟩
      case measure => simp; omega
    · have hnx : ∀ ty, (Instr.next (.pointer (some ⟨w.heap.size, 0, none⟩)) true ty).run Tryd.prog (w.iter s pos) = _ := fun ty => run_next_end w s pos ty hp
      go_wp2
      go_ret
      exact ⟨by rw [List.take_of_length_le (by simp; omega)]; rfl, below_iter _ _ _⟩

def numE (l : List UInt8) : Int := if checkE l = 0 then (if 62 < l.length then 2 else 0) else checkE l
def numV (l : List UInt8) : Int := if numE l = 0 then val l else 0

theorem number_shape (s : ByteArray) : (checkE s.data.toList = 0 ∧ s.size ≤ 62 ∧ rowB s.data.toList = true ∧ numE s.data.toList = 0 ∧ numV s.data.toList = val s.data.toList) ∨
    (checkE s.data.toList = 0 ∧ 62 < s.size ∧ numE s.data.toList = 2 ∧ numV s.data.toList = 0) ∨
    (checkE s.data.toList ≠ 0 ∧ numE s.data.toList = checkE s.data.toList ∧ numV s.data.toList = 0) := by
  by_cases h : checkE s.data.toList = 0
  · have hr : rowB s.data.toList = true := by
      unfold checkE at h
      by_cases h1 : 1000 < s.data.toList.length
      · rw [if_pos h1] at h; omega
      · rw [if_neg h1] at h
        cases e : rowB s.data.toList with
        | true => rfl
        | false => rw [e] at h; simp at h
    by_cases h2 : 62 < s.size
    · have e : numE s.data.toList = 2 := by unfold numE; rw [if_pos h, if_pos (by simpa using h2)]
      exact Or.inr (Or.inl ⟨h, h2, e, by unfold numV; rw [e]; rfl⟩)
    · have e : numE s.data.toList = 0 := by unfold numE; rw [if_pos h, if_neg (by simpa using h2)]
      exact Or.inl ⟨h, by omega, hr, e, by unfold numV; rw [e]; rfl⟩
  · have e : numE s.data.toList = checkE s.data.toList := by unfold numE; rw [if_neg h]
    exact Or.inr (Or.inr ⟨h, e, by unfold numV; rw [e, if_neg h]⟩)

set_option maxHeartbeats 1000000 in
theorem number_any (s : ByteArray) (w : World) (hs : s.size ≤ maxLen) :
    Calls Tryd.prog 78 #[.string s] w fun e w' => e = .returned (.tuple #[.int .i64 (numV s.data.toList), .int .i64 (numE s.data.toList)]) ∧ Below w.heap.size w w' := by
  rcases number_shape s with ⟨hc, h62, hrow, hE, hV⟩ | ⟨hc, h62, hE, hV⟩ | ⟨hc, hE, hV⟩
  · rw [hE, hV]
    have HS : Hid (s.size ≤ maxLen) := hs
    have HC : Hid (checkE s.data.toList = 0) := hc
    have HR : Hid (rowB s.data.toList = true) := hrow
    clear hE hV hs hc hrow
    go_enter Tryd.func78, Tryd.ntmps78
    go_wp2_with fail
    refine (check_any s w HS.out).mono ?_
    rw [HC.out]
    rintro e w1 ⟨rfl, hb1⟩
    go_wp2_with fail
    refine (value_any s w1 h62 HR.out).mono ?_
    rintro e w2 ⟨rfl, hb2⟩
    go_wp2_with fail
    go_ret2
    exact ⟨rfl, hb1.trans (hb2.mono hb1.size)⟩
  · rw [hE, hV]
    have HS : Hid (s.size ≤ maxLen) := hs
    have HC : Hid (checkE s.data.toList = 0) := hc
    unfold maxLen at hs
    clear hE hV hc
    go_enter Tryd.func78, Tryd.ntmps78
    go_wp2_with fail
    refine (check_any s w HS.out).mono ?_
    rw [HC.out]
    rintro e w1 ⟨rfl, hb1⟩
    go_wp2_with fail
    go_ret2
    exact ⟨rfl, hb1⟩
  · rw [hE, hV]
    have HS : Hid (s.size ≤ maxLen) := hs
    have hc' : (checkE s.data.toList == 0) = false := by simpa using hc
    clear hE hV hs hc
    go_enter Tryd.func78, Tryd.ntmps78
    go_wp2_with fail
    refine (check_any s w HS.out).mono ?_
    rintro e w1 ⟨rfl, hb1⟩
    go_wp2_with fail
    go_ret2
    exact ⟨rfl, hb1⟩
end Bw
end Go.Proofs.YtfomempleaceiaaDoor
namespace Go.Proofs.YtfomempleaceiaaDoor
open Go.ChangeShapes Go.WideShapes Go.ChangeAt Go.RowKit
namespace Bw
open Bm

set_option maxHeartbeats 2000000 in
theorem appendBits_any (v : Value) (k : Nat) (l : List UInt8) (n size : Nat) (w : World) (base : Nat) (hb : base ≤ w.heap.size) (hl : l.length = k) (hk : k ≤ 100000)
    (hn : n < 2 ^ 63) (hsize : size ≤ 62) (hown : w.ownsRow base 5 1 v k (cellsOf l)) :
    Calls Tryd.prog 75 #[v, .int .i64 n, .int .i64 size] w fun e w' => ∃ v', e = .returned v' ∧ w'.ownsRow base 5 1 v' (k + size) (cellsOf (l ++ bitsHead n size size)) ∧ Below base w w' := by
  obtain ⟨i0, hi, hz0, hz1, hz2⟩ := info_parts info_u8
  go_enter Tryd.func75, Tryd.ntmps75
  go_wp2
  go_loopw [0, 9] (fun r i wr => ∃ j : Nat, j ≤ size ∧ i = .int .i64 j ∧ wr.ownsRow base 5 1 r (k + j) (cellsOf (l ++ bitsHead n size j)) ∧ Below base w wr) (fun _ i _ => size - (intOf i).toNat)
  case atStart => exact ⟨0, Nat.zero_le _, rfl, by simpa [bitsHead] using hown, Below.refl _ _⟩
  case round =>
    obtain ⟨j, hj, rfl, hownr, hbel⟩ := hrel
    by_cases hlt : j < size
    · have HV : Hid (Value.int .u8 ((48 + bits .and .i64 ((n : Int) / 2 ^ (size - 1 - j)) 1) % 256) = Value.int .u8 (bitAt n (size - 1 - j)).toNat) := bit_cell n (size - 1 - j) hn
      have hlen : base ≤ wr.heap.size := Nat.le_trans hb hbel.size
      go_wp2_with (at_builtin; refine wpList_append_own _ rfl (.tmp 12) (.tmp 22) 28 rfl base 5 i0 (.int .u8 0) 1 1 Tryd.underlying28 hi hz0 hz1 hz2 rfl (by decide) _ _ _ rfl (hownr.alloc _) ⟨wr.heap.size, 0, none⟩ 1 1 [Value.int .u8 ((48 + bits .and .i64 ((n : Int) / 2 ^ (size - 1 - j)) 1) % 256)] rfl rfl (by intro q u hq; match q, hq with | 0, hq => (simp at hq; subst hq; simp [Addr.add])) (by intro u hu; simp at hu; subst hu; rfl) (by unfold maxLen; omega) (by omega) (by simp; omega) ?_; intro v' w1 hown' hgrow _)
      have hbel1 : Below base w w1 := Below.grown (hbel.alloc hlen _) hgrow (by simp; omega) (fun q hq => (hownr.lt q hq).1)
      have hown2 : w1.ownsRow base 5 1 v' (k + (j + 1)) (cellsOf (l ++ bitsHead n size (j + 1))) := by
        rw [bitsHead_succ, ← List.append_assoc, cellsOf_append _ [_]]
        have e : cellsOf [bitAt n (size - 1 - j)] = [Value.int .u8 ((48 + bits .and .i64 ((n : Int) / 2 ^ (size - 1 - j)) 1) % 256)] := by rw [HV.out]; rfl
        rw [e]; exact hown'
      clear hown' hgrow hownr
      go_wp2
      go_roundw
      case rel => exact ⟨j + 1, by omega, by go_num, hown2, hbel1⟩
      case measure => simp [intOf]; omega
    · have e : j = size := by omega
      subst e
      go_wp2_with fail
      go_ret
      exact ⟨_, rfl, hownr, hbel⟩

set_option maxHeartbeats 1000000 in
theorem row_many (n size : Int) (w : World) (h : size < 0 ∨ 62 < size) :
    Calls Tryd.prog 50 #[.int .i64 n, .int .i64 size] w fun e w' => e = .returned (.tuple #[.string ⟨#[]⟩, .int .i64 2]) ∧ w' = w := by
  by_cases h1 : size < 0
  · go_enter Tryd.func50, Tryd.ntmps50
    go_wp2_with fail
    go_ret2
    exact ⟨rfl, rfl⟩
  · have h2 : 62 < size := by omega
    clear h
    have hd : decide (size < 0) = false := by simpa using h1
    go_enter Tryd.func50, Tryd.ntmps50
    go_wp2_with fail
    go_ret2
    exact ⟨rfl, rfl⟩

set_option maxHeartbeats 1000000 in
theorem row_range (n size : Int) (w : World) (h0 : 0 ≤ size) (h1 : size ≤ 62) (h : n < 0 ∨ 2 ^ size.toNat ≤ n) :
    Calls Tryd.prog 50 #[.int .i64 n, .int .i64 size] w fun e w' => e = .returned (.tuple #[.string ⟨#[]⟩, .int .i64 3]) ∧ w' = w := by
  by_cases hn : n < 0
  · clear h
    go_enter Tryd.func50, Tryd.ntmps50
    go_wp2_with fail
    go_ret2
    exact ⟨rfl, rfl⟩
  · have h2 : 2 ^ size.toNat ≤ n := by omega
    have hq : (n / 2 ^ size.toNat == 0) = false := by
      have hp : (0 : Int) < 2 ^ size.toNat := Int.pow_pos (by omega)
      have : 1 ≤ n / 2 ^ size.toNat := (Int.le_ediv_iff_mul_le hp).2 (by omega)
      simp; omega
    clear h h2
    go_enter Tryd.func50, Tryd.ntmps50
    go_wp2_with fail
    go_ret2
    exact ⟨rfl, rfl⟩

set_option maxHeartbeats 1000000 in
theorem row_ok (n size : Nat) (w : World) (h1 : size ≤ 62) (h : n < 2 ^ size) :
    Calls Tryd.prog 50 #[.int .i64 n, .int .i64 size] w fun e w' => e = .returned (.tuple #[.string ⟨(bitsHead n size size).toArray⟩, .int .i64 0]) ∧ Below w.heap.size w w' := by
  have hq : (n : Int) / 2 ^ size = 0 := by
    have : n / 2 ^ size = 0 := Nat.div_eq_of_lt h
    have e : (n : Int) / 2 ^ size = ((n / 2 ^ size : Nat) : Int) := by simp
    rw [e, this]; rfl
  have hn : n < 2 ^ 63 := Nat.lt_of_lt_of_le h (Nat.pow_le_pow_right (by omega) (by omega))
  have HN : Hid (n < 2 ^ 63) := hn
  clear h hn
  go_enter Tryd.func50, Tryd.ntmps50
  go_wp2_with fail
  refine (appendBits_any (.slice none 0 0) 0 [] n size w w.heap.size (Nat.le_refl _) rfl (by omega) HN.out h1 (World.ownsRow_nil _ _ _ _)).mono ?_
  rintro e w1 ⟨v', rfl, hown, hbel⟩
  have hcv := convert_own hown
  clear hown
  go_wp2_with fail
  go_ret2
  exact ⟨rfl, hbel⟩
end Bw
end Go.Proofs.YtfomempleaceiaaDoor
namespace Go.Proofs.YtfomempleaceiaaDoor
open Go.ChangeShapes Go.WideShapes Go.ChangeAt Go.RowKit
namespace Bw
open Bm

set_option maxHeartbeats 1000000 in
theorem of_many (a : Option Addr) (len cap : Nat) (w : World) (hl : 125 < len) (hm : len ≤ maxLen) :
    Calls Tryd.prog 51 #[.slice a len cap] w fun e w' => e = .returned (.tuple #[.string ⟨#[]⟩, .int .i64 2]) ∧ w' = w := by
  unfold maxLen at hm
  go_enter Tryd.func51, Tryd.ntmps51
  go_wp2_with fail
  go_ret2
  exact ⟨rfl, rfl⟩

set_option maxHeartbeats 2000000 in
theorem of_any (a : Option Addr) (len cap : Nat) (l : List UInt8) (w : World) (hl : len ≤ 125) (hr : IsBytes w a len cap l) :
    Calls Tryd.prog 51 #[.slice a len cap] w fun e w' => e = .returned (.tuple #[.string ⟨(ofL l).toArray⟩, .int .i64 0]) ∧ Below w.heap.size w w' := by
  obtain ⟨hlen, _, _, hnil, hcells⟩ := hr
  have HC : Hid (∀ x, a = some x → ∀ i, i < len → w.cell? (x.add i) = some (.int .u8 (l.getD i 0).toNat)) := hcells
  have HN : Hid (a = none → len = 0) := hnil
  have HL : Hid (l.length = len) := hlen
  clear hcells hnil hlen
  go_enter Tryd.func51, Tryd.ntmps51
  go_wp2_with fail
  go_loopw [4, 12] (fun r i wr => ∃ k : Nat, k ≤ len ∧ i = .int .i64 k ∧ wr.ownsRow w.heap.size 5 1 r (8 * k) (cellsOf (ofL (l.take k))) ∧ Below w.heap.size w wr) (fun _ i _ => len - (intOf i).toNat)
  case atStart => exact ⟨0, Nat.zero_le _, rfl, by simpa [ofL, cellsOf] using World.ownsRow_nil _ _ _ _, Below.refl _ _⟩
  case round =>
    obtain ⟨k, hk, rfl, hown, hbel⟩ := hrel
    by_cases hlt : k < len
    · cases a with
      | none => exact absurd (HN.out rfl) (by omega)
      | some x =>
        have hc := cell_kept hbel (HC.out x rfl k hlt)
        have hlt' : (k : Int) < (len : Int) := by omega
        obtain ⟨c, hcE⟩ : ∃ c, c = l.getD k 0 := ⟨_, rfl⟩
        rw [← hcE] at hc
        have HE : Hid (c = l.getD k 0) := hcE
        clear hcE
        have hcb : (c.toNat : Int) ≤ 255 := by have := c.toNat_lt; omega
        go_wp2_with fail
        refine (appendBits_any u4 (8 * k) (ofL (l.take k)) c.toNat 8 wr w.heap.size hbel.size ?_ (by omega) (by omega) (by omega) hown).mono ?_
        · rw [ofL_length, List.length_take]; have := HL.out; omega
        rintro e w1 ⟨v', rfl, hown1, hbel1⟩
        have hown2 : w1.ownsRow w.heap.size 5 1 v' (8 * (k + 1)) (cellsOf (ofL (l.take (k + 1)))) := by
          rw [take_snocL l k (by have := HL.out; omega), ofL_snoc, ← HE.out]
          exact hown1
        clear hown1 hown
        go_wp2_with fail
        go_roundw
        case rel => exact ⟨k + 1, by omega, by go_num, hown2, hbel.trans hbel1⟩
        case measure => simp [intOf]; omega
    · have e : k = len := by omega
      subst e
      have hcv := convert_own hown
      rw [List.take_of_length_le (by have := HL.out; omega)] at hcv
      clear hown
      go_wp2_with fail
      go_ret2
      exact ⟨rfl, hbel⟩
end Bw
end Go.Proofs.YtfomempleaceiaaDoor
namespace Go.Proofs.YtfomempleaceiaaDoor
open Go.ChangeShapes Go.WideShapes Go.ChangeAt Go.RowKit
namespace Bw
open Bm

def byteAt (l : List UInt8) (i : Nat) : UInt8 := UInt8.ofNat (val ((l.drop (8 * i)).take 8))
def partL (l : List UInt8) (n k : Nat) : List UInt8 := (List.range n).map fun i => if i < k then byteAt l i else 0
def bytesL (l : List UInt8) : List UInt8 := (List.range (l.length / 8)).map (byteAt l)

theorem partL_length (l : List UInt8) (n k : Nat) : (partL l n k).length = n := by simp [partL]
theorem partL_zero (l : List UInt8) (n : Nat) : cellsOf (partL l n 0) = List.replicate n (Value.int .u8 0) := by
  apply List.ext_getElem?
  intro j
  by_cases hj : j < n <;> simp [partL, cellsOf, hj]
theorem partL_succ (l : List UInt8) (n k : Nat) : (cellsOf (partL l n k)).set k (.int .u8 (byteAt l k).toNat) = cellsOf (partL l n (k + 1)) := by
  apply List.ext_getElem?
  intro j
  rw [List.getElem?_set]
  by_cases hj : j < n
  · by_cases hjk : k = j
    · subst hjk; simp [partL, cellsOf, hj]
    · have h1 : (j < k + 1) = (j < k) := by simp; omega
      simp [partL, cellsOf, hj, hjk, h1]
  · simp [partL, cellsOf, hj]; omega
theorem partL_full (l : List UInt8) (n : Nat) (h : l.length / 8 = n) : partL l n n = bytesL l := by
  unfold partL bytesL
  rw [h]
  apply List.map_congr_left
  intro i hi
  rw [if_pos (by simpa using hi)]

set_option maxHeartbeats 1000000 in
theorem bytes_bad (s : ByteArray) (w : World) (hs : s.size ≤ maxLen) (hc : checkE s.data.toList ≠ 0) :
    Calls Tryd.prog 64 #[.string s] w fun e w' => e = .returned (.tuple #[.slice none 0 0, .int .i64 (checkE s.data.toList)]) ∧ Below w.heap.size w w' := by
  have HS : Hid (s.size ≤ maxLen) := hs
  have hc' : (checkE s.data.toList == 0) = false := by simpa using hc
  clear hs
  go_enter Tryd.func64, Tryd.ntmps64
  go_wp2_with fail
  refine (check_any s w HS.out).mono ?_
  rintro e w1 ⟨rfl, hb1⟩
  go_wp2_with fail
  go_ret2
  exact ⟨rfl, hb1⟩

set_option maxHeartbeats 1000000 in
theorem bytes_form (s : ByteArray) (w : World) (hc : checkE s.data.toList = 0) (h8 : s.size % 8 ≠ 0) :
    Calls Tryd.prog 64 #[.string s] w fun e w' => e = .returned (.tuple #[.slice none 0 0, .int .i64 4]) ∧ Below w.heap.size w w' := by
  have h1000 := (small_of_check hc).1
  have hck := fun W => check_any s W (by unfold maxLen; omega)
  rw [hc] at hck
  have h8' : (((s.size : Int) % 8) == 0) = false := by simp; omega
  clear hc
  go_enter Tryd.func64, Tryd.ntmps64
  go_wp2_with fail
  refine (hck w).mono ?_
  rintro e w1 ⟨rfl, hb1⟩
  clear hck
  go_wp2_with fail
  go_ret2
  exact ⟨rfl, hb1⟩

set_option maxHeartbeats 2000000 in
theorem bytes_ok (s : ByteArray) (w : World) (hc : checkE s.data.toList = 0) (n : Nat) (h8 : s.size = 8 * n) :
    Calls Tryd.prog 64 #[.string s] w fun e w' => ∃ v, e = .returned (.tuple #[v, .int .i64 0]) ∧ w'.ownsRow w.heap.size 5 1 v n (cellsOf (bytesL s.data.toList)) ∧ Below w.heap.size w w' := by
  have h1000 := (small_of_check hc).1
  have HR : Hid (rowB s.data.toList = true) := (small_of_check hc).2
  have hck := fun W => check_any s W (by unfold maxLen; omega)
  rw [hc] at hck
  have h8' : (s.size : Int) % 8 = 0 := by omega
  have hdiv : (s.size : Int) / 8 = (n : Int) := by omega
  have H8 : Hid (s.size = 8 * n) := h8
  have hn : n ≤ 125 := by omega
  clear hc h8
  obtain ⟨i0, hi, hz0, hz1, hz2⟩ := info_parts info_u8
  go_enter Tryd.func64, Tryd.ntmps64
  go_wp2_with fail
  refine (hck w).mono ?_
  rintro e w1 ⟨rfl, hb1⟩
  clear hck
  go_wp2_with (at_make; refine wpList_make_full _ rfl (.tmp 18) (.tmp 18) 28 rfl w.heap.size 5 i0 (.int .u8 0) 1 Tryd.underlying28 hi hz0 hz1 .i64 .i64 _ _ n rfl rfl (by omega) (by omega) (by rw [hz2]; omega) (by unfold maxLen; omega) hb1.size ?_; intro w2 hown hgrow)
  have hown0 : w2.ownsRow w.heap.size 5 1 (.slice (some ⟨w1.heap.size, 0, none⟩) n n) n (cellsOf (partL s.data.toList n 0)) := by
    rw [partL_zero, ← toList_madeCells_one]
    rw [Nat.mul_one] at hown
    exact hown
  have hb2 : Below w.heap.size w w2 := Below.grown hb1 hgrow hb1.size (fun q hq => by cases hq)
  clear hown hgrow h8' hdiv
  go_wp2_with fail
  go_loopw [22] (fun i wr => ∃ k : Nat, k ≤ n ∧ i = .int .i64 k ∧ wr.ownsRow w.heap.size 5 1 (.slice (some ⟨w1.heap.size, 0, none⟩) n n) n (cellsOf (partL s.data.toList n k)) ∧ Below w.heap.size w wr) (fun i _ => n - (intOf i).toNat)
  case atStart => exact ⟨0, Nat.zero_le _, rfl, hown0, hb2⟩
  case round =>
    clear hown0 hb2
    obtain ⟨k, hk, rfl, hown, hbel⟩ := hrel
    by_cases hlt : k < n
    · have hlt' : (k : Int) < (n : Int) := by omega
      have hsz : (k : Int) * 8 + 8 ≤ (s.size : Int) := by have := H8.out; omega
      have hsl : ∀ W, (Instr.slice 9 (.string s) (some (.int .i64 ((k : Int) * 8))) (some (.int .i64 (((k : Int) + 1) * 8))) none).run Tryd.prog W = .ok (.string (s.extract (8 * k) (8 * k + 8))) W := by
        intro W
        rw [run_slice_string W _ s _ _ _ _ Tryd.underlying9 (by omega) (by omega) (by omega)]
        have e1 : ((k : Int) * 8).toNat = 8 * k := by omega
        have e2 : (((k : Int) + 1) * 8).toNat = 8 * k + 8 := by omega
        rw [e1, e2]
      obtain ⟨t, htE⟩ : ∃ t, t = s.extract (8 * k) (8 * k + 8) := ⟨_, rfl⟩
      rw [← htE] at hsl
      have hts := congrArg ByteArray.size htE
      rw [ByteArray.size_extract] at hts
      have hts2 : t.size = 8 := by have := H8.out; omega
      have htl : t.data.toList = (s.data.toList.drop (8 * k)).take 8 := by rw [htE]; exact extract_list s (8 * k) 8
      have hcellv := fun W => value_any t W (by omega) (by rw [htl]; exact rowB_take (rowB_drop HR.out _) _)
      have hv255 : val t.data.toList < 256 := by
        have h1 := val_lt t.data.toList (by rw [htl]; exact rowB_take (rowB_drop HR.out _) _)
        have h2 : t.data.toList.length = 8 := by simpa using hts2
        rw [h2] at h1; exact h1
      have HB : Hid (Value.int .u8 (val t.data.toList) = Value.int .u8 (byteAt s.data.toList k).toNat) := by
        unfold byteAt
        rw [← htl]
        have : (UInt8.ofNat (val t.data.toList)).toNat = val t.data.toList := by simp; omega
        show _ = _
        rw [this]
      clear hi hz0 hz1 hz2 htE hts htl hts2
      generalize val t.data.toList = vv at *
      go_wp2_with fail
      refine (hcellv wr).mono ?_
      rintro e w3 ⟨rfl, hb3⟩
      have hown3 := ownsRow_below hown hb3
      have hc3 := hown3.cellAt k (by omega)
      have hf3 := hown3.frozenAt k
      rw [show (cellsOf (partL s.data.toList n k))[k]? = some ((cellsOf (partL s.data.toList n k))[k]'(by rw [cellsOf_length, partL_length]; exact hlt)) from List.getElem?_eq_getElem _] at hc3
      have hst := hown3.stored k (.int .u8 vv)
      rw [HB.out, partL_succ] at hst
      rw [← HB.out] at hst
      have hown4 := hst.1
      have hb4 := (hbel.trans (hb3.mono hbel.size)).grown hst.2 (Nat.le_trans hbel.size hb3.size) (fun q hq => by cases hq; exact hb1.size)
      have HO4 := Hid.mk hown4
      clear hown hown3 hst hown4 hcellv
      go_wp2_with fail
      go_roundw
      case rel => exact ⟨k + 1, by omega, by go_num, HO4.out, hb4⟩
      case measure => simp [intOf]; omega
    · have e : k = n := by omega
      subst e
      rw [partL_full _ _ (by have := H8.out; simp; omega)] at hown
      go_wp2_with fail
      go_ret2
      exact ⟨_, rfl, hown, hbel⟩
end Bw
end Go.Proofs.YtfomempleaceiaaDoor
