/- Joined out of our texts: FrameOk, BitsNumber, BitsRow, BitsOf, BitsBytes, ReadMath, BackRead, TchKit, TakeV. -/
import Derived.Test.YtdhmjbnpdmneiacDoorLawFrameLongestRAE
import Derived.Test.YtdhmjbnpdmneiacDoorLawFrameLongestRAG
import Derived.Test.YtdhmjbnpdmneiacDoorBase8
import Derived.Test.YtdhmjbnpdmneiacDoorBase0
/- What it says of a frame that it is right; of no program. -/
namespace Go.Proofs.YtdhmjbnpdmneiacDoor
namespace Bw
open Bm Cm
theorem frE_ok {f : Fr} (h : frE f = 0) : 0 ≤ f.id ∧ f.id ≤ topI f.lo ∧ (f.re = true → f.fa = false ∧ f.dt.length = 0) ∧ 0 ≤ f.sz ∧ f.sz ≤ 8 ∧ (f.re = false → f.sz = 0) ∧ f.dt.length ≤ 64 ∧ (f.fa = false → f.dt.length ≤ 8) ∧ f.dt.length ∈ sizesL := by
  obtain ⟨id, lo, fa, re, sz, dt⟩ := f
  unfold frE frEn at h
  simp only at h ⊢
  split at h
  · cases h
  · split at h
    · cases h
    · split at h
      · cases h
      · split at h
        · cases h
        · split at h
          · rename_i h1 h2 h3 h4 h5
            refine ⟨by omega, by omega, fun hr => ?_, by omega, by omega, fun hr => ?_, by omega, fun hf => ?_, h5⟩
            · subst hr
              cases fa
              · exact ⟨rfl, by simpa using h2⟩
              · exact absurd ⟨rfl, .inl rfl⟩ h2
            · subst hr
              have : ¬ 0 < sz := fun h => h3 (.inr (.inr ⟨h, rfl⟩))
              omega
            · subst hf
              have : ¬ 8 < dt.length := fun h => h4 (.inr ⟨h, rfl⟩)
              omega
          · cases h
end Bw
end Go.Proofs.YtdhmjbnpdmneiacDoor

/- What bits.value and bits.Number answer of any text: the number that a row of at most 62 bits tells, and else which error. -/
namespace Go.Proofs.YtdhmjbnpdmneiacDoor
open Go.ChangeShapes Go.WideShapes Go.ChangeAt Go.RowKit
namespace Bw
open Bm

theorem or_one (n : Nat) (d : Int) (hn : n < 2 ^ 61) (hd : d = 48 ∨ d = 49) : bits .or .i64 (wrap64 ((n : Int) * 2)) (d - 48) = 2 * (n : Int) + (d - 48) := by
  have e : wrap64 ((n : Int) * 2) = (n : Int) * 2 := by unfold wrap64; omega
  rw [e, bits_join .i64 63 (by decide) (fun n h0 h1 => by rw [IntKind.wrap_i64]; omega) 1 _ _ (by omega) (by omega) (by omega) (by omega) (by omega) (by omega)]
  omega

set_option maxHeartbeats 1000000 in
theorem value_any (s : ByteArray) (w : World) (hm : s.size ≤ 62) (hrow : rowB s.data.toList = true) :
    Calls Tryd.prog 45 #[.string s] w fun e w' => e = .returned (.int .i64 (val s.data.toList)) ∧ Below w.heap.size w w' := by
  have HR : Hid (rowB s.data.toList = true) := hrow
  clear hrow
  go_enter Tryd.func45, Tryd.ntmps45
  go_wp2
  go_loopw [3] (fun n w' => ∃ pos : Nat, w' = w.iter s pos ∧ pos ≤ s.size ∧ n = .int .i64 (val (s.data.toList.take pos))) (fun _ w' => s.size - w'.iterPos w.heap.size)
  case atStart => exact ⟨0, rfl, Nat.zero_le _, rfl⟩
  case round =>
    obtain ⟨pos, rfl, hpos, rfl⟩ := hrel
    by_cases hp : pos < s.size
    · have hb := rowB_at HR.out pos hp
      have ha : (s[pos]'hp).toNat < 128 := by rcases (bit_iff _).1 hb with h | h <;> omega
      have hb' := (bit_iff _).1 hb
      have hnx : ∀ ty, (Instr.next (.pointer (some ⟨w.heap.size, 0, none⟩)) true ty).run Tryd.prog (w.iter s pos) = _ := fun ty => run_next_ascii w s pos ty hp ha
      have HN : Hid (∀ d : Int, d = 48 ∨ d = 49 → d = s[pos].toNat → bits .or .i64 (wrap64 ((val (s.data.toList.take pos) : Int) * 2)) (d - 48) = (val (s.data.toList.take (pos + 1)) : Int)) := by
        intro d hd hd'
        have hv := val_lt _ (rowB_take HR.out pos)
        have hl : (s.data.toList.take pos).length ≤ 61 := by rw [List.length_take]; omega
        have h2 : (2 : Nat) ^ (s.data.toList.take pos).length ≤ 2 ^ 61 := Nat.pow_le_pow_right (by omega) hl
        rw [take_snoc s pos hp, val_snoc, or_one _ _ (by omega) hd, hd', (bit_dig hb).2.symm]
        omega
      clear hb
      go_wp2
      go_roundw
      case rel => exact ⟨pos + 1, rfl, by omega, int_eq (HN.out _ hb' rfl)⟩
      case measure => simp; omega
    · have hnx : ∀ ty, (Instr.next (.pointer (some ⟨w.heap.size, 0, none⟩)) true ty).run Tryd.prog (w.iter s pos) = _ := fun ty => run_next_end w s pos ty hp
      go_wp2
      go_ret
      exact ⟨by rw [List.take_of_length_le (by simp; omega)]; rfl, below_iter _ _ _⟩

def numE (l : List UInt8) : Int := if checkE l = 0 then (if 62 < l.length then 2 else 0) else checkE l
def numV (l : List UInt8) : Int := if numE l = 0 then val l else 0

theorem number_shape (s : ByteArray) : (checkE s.data.toList = 0 ∧ s.size ≤ 62 ∧ rowB s.data.toList = true ∧ numE s.data.toList = 0 ∧ numV s.data.toList = val s.data.toList) ∨
    (checkE s.data.toList = 0 ∧ 62 < s.size ∧ numE s.data.toList = 2 ∧ numV s.data.toList = 0) ∨
    (checkE s.data.toList ≠ 0 ∧ numE s.data.toList = checkE s.data.toList ∧ numV s.data.toList = 0) := by
  by_cases h : checkE s.data.toList = 0
  · have hr : rowB s.data.toList = true := by
      unfold checkE at h
      by_cases h1 : 1000 < s.data.toList.length
      · rw [if_pos h1] at h; omega
      · rw [if_neg h1] at h
        cases e : rowB s.data.toList with
        | true => rfl
        | false => rw [e] at h; simp at h
    by_cases h2 : 62 < s.size
    · have e : numE s.data.toList = 2 := by unfold numE; rw [if_pos h, if_pos (by simpa using h2)]
      exact Or.inr (Or.inl ⟨h, h2, e, by unfold numV; rw [e]; rfl⟩)
    · have e : numE s.data.toList = 0 := by unfold numE; rw [if_pos h, if_neg (by simpa using h2)]
      exact Or.inl ⟨h, by omega, hr, e, by unfold numV; rw [e]; rfl⟩
  · have e : numE s.data.toList = checkE s.data.toList := by unfold numE; rw [if_neg h]
    exact Or.inr (Or.inr ⟨h, e, by unfold numV; rw [e, if_neg h]⟩)

set_option maxHeartbeats 1000000 in
theorem number_any (s : ByteArray) (w : World) (hs : s.size ≤ maxLen) :
    Calls Tryd.prog 21 #[.string s] w fun e w' => e = .returned (.tuple #[.int .i64 (numV s.data.toList), .int .i64 (numE s.data.toList)]) ∧ Below w.heap.size w w' := by
  rcases number_shape s with ⟨hc, h62, hrow, hE, hV⟩ | ⟨hc, h62, hE, hV⟩ | ⟨hc, hE, hV⟩
  · rw [hE, hV]
    have HS : Hid (s.size ≤ maxLen) := hs
    have HC : Hid (checkE s.data.toList = 0) := hc
    have HR : Hid (rowB s.data.toList = true) := hrow
    clear hE hV hs hc hrow
    go_enter Tryd.func21, Tryd.ntmps21
    go_wp2_with fail
    refine (check_any s w HS.out).mono ?_
    rw [HC.out]
    rintro e w1 ⟨rfl, hb1⟩
    go_wp2_with fail
    refine (value_any s w1 h62 HR.out).mono ?_
    rintro e w2 ⟨rfl, hb2⟩
    go_wp2_with fail
    go_ret2
    exact ⟨rfl, hb1.trans (hb2.mono hb1.size)⟩
  · rw [hE, hV]
    have HS : Hid (s.size ≤ maxLen) := hs
    have HC : Hid (checkE s.data.toList = 0) := hc
    unfold maxLen at hs
    clear hE hV hc
    go_enter Tryd.func21, Tryd.ntmps21
    go_wp2_with fail
    refine (check_any s w HS.out).mono ?_
    rw [HC.out]
    rintro e w1 ⟨rfl, hb1⟩
    go_wp2_with fail
    go_ret2
    exact ⟨rfl, hb1⟩
  · rw [hE, hV]
    have HS : Hid (s.size ≤ maxLen) := hs
    have hc' : (checkE s.data.toList == 0) = false := by simpa using hc
    clear hE hV hs hc
    go_enter Tryd.func21, Tryd.ntmps21
    go_wp2_with fail
    refine (check_any s w HS.out).mono ?_
    rintro e w1 ⟨rfl, hb1⟩
    go_wp2_with fail
    go_ret2
    exact ⟨rfl, hb1⟩
end Bw
end Go.Proofs.YtdhmjbnpdmneiacDoor

/- What bits.appendBits and bits.Row answer: the bits of a number behind a row that the call owns, and the row of any number in any size, errors too. -/
namespace Go.Proofs.YtdhmjbnpdmneiacDoor
open Go.ChangeShapes Go.WideShapes Go.ChangeAt Go.RowKit
namespace Bw
open Bm

set_option maxHeartbeats 2000000 in
theorem appendBits_any (v : Value) (k : Nat) (l : List UInt8) (n size : Nat) (w : World) (base : Nat) (hb : base ≤ w.heap.size) (hl : l.length = k) (hk : k ≤ 100000)
    (hn : n < 2 ^ 63) (hsize : size ≤ 62) (hown : w.ownsRow base 5 1 v k (cellsOf l)) :
    Calls Tryd.prog 44 #[v, .int .i64 n, .int .i64 size] w fun e w' => ∃ v', e = .returned v' ∧ w'.ownsRow base 5 1 v' (k + size) (cellsOf (l ++ bitsHead n size size)) ∧ Below base w w' := by
  obtain ⟨i0, hi, hz0, hz1, hz2⟩ := info_parts info_u8
  go_enter Tryd.func44, Tryd.ntmps44
  go_wp2
  go_loopw [0, 9] (fun r i wr => ∃ j : Nat, j ≤ size ∧ i = .int .i64 j ∧ wr.ownsRow base 5 1 r (k + j) (cellsOf (l ++ bitsHead n size j)) ∧ Below base w wr) (fun _ i _ => size - (intOf i).toNat)
  case atStart => exact ⟨0, Nat.zero_le _, rfl, by simpa [bitsHead] using hown, Below.refl _ _⟩
  case round =>
    obtain ⟨j, hj, rfl, hownr, hbel⟩ := hrel
    by_cases hlt : j < size
    · have HV : Hid (Value.int .u8 ((48 + bits .and .i64 ((n : Int) / 2 ^ (size - 1 - j)) 1) % 256) = Value.int .u8 (bitAt n (size - 1 - j)).toNat) := bit_cell n (size - 1 - j) hn
      have hlen : base ≤ wr.heap.size := Nat.le_trans hb hbel.size
      go_wp2_with (at_builtin; refine wpList_append_own _ rfl (.tmp 12) (.tmp 22) 31 rfl base 5 i0 (.int .u8 0) 1 1 Tryd.underlying31 hi hz0 hz1 hz2 rfl (by decide) _ _ _ rfl (hownr.alloc _) ⟨wr.heap.size, 0, none⟩ 1 1 [Value.int .u8 ((48 + bits .and .i64 ((n : Int) / 2 ^ (size - 1 - j)) 1) % 256)] rfl rfl (by intro q u hq; match q, hq with | 0, hq => (simp at hq; subst hq; simp [Addr.add])) (by intro u hu; simp at hu; subst hu; rfl) (by unfold maxLen; omega) (by omega) (by simp; omega) ?_; intro v' w1 hown' hgrow _)
      have hbel1 : Below base w w1 := Below.grown (hbel.alloc hlen _) hgrow (by simp; omega) (fun q hq => (hownr.lt q hq).1)
      have hown2 : w1.ownsRow base 5 1 v' (k + (j + 1)) (cellsOf (l ++ bitsHead n size (j + 1))) := by
        rw [bitsHead_succ, ← List.append_assoc, cellsOf_append _ [_]]
        have e : cellsOf [bitAt n (size - 1 - j)] = [Value.int .u8 ((48 + bits .and .i64 ((n : Int) / 2 ^ (size - 1 - j)) 1) % 256)] := by rw [HV.out]; rfl
        rw [e]; exact hown'
      clear hown' hgrow hownr
      go_wp2
      go_roundw
      case rel => exact ⟨j + 1, by omega, by go_num, hown2, hbel1⟩
      case measure => simp [intOf]; omega
    · have e : j = size := by omega
      subst e
      go_wp2_with fail
      go_ret
      exact ⟨_, rfl, hownr, hbel⟩

set_option maxHeartbeats 1000000 in
theorem row_many (n size : Int) (w : World) (h : size < 0 ∨ 62 < size) :
    Calls Tryd.prog 43 #[.int .i64 n, .int .i64 size] w fun e w' => e = .returned (.tuple #[.string ⟨#[]⟩, .int .i64 2]) ∧ w' = w := by
  by_cases h1 : size < 0
  · go_enter Tryd.func43, Tryd.ntmps43
    go_wp2_with fail
    go_ret2
    exact ⟨rfl, rfl⟩
  · have h2 : 62 < size := by omega
    clear h
    have hd : decide (size < 0) = false := by simpa using h1
    go_enter Tryd.func43, Tryd.ntmps43
    go_wp2_with fail
    go_ret2
    exact ⟨rfl, rfl⟩

set_option maxHeartbeats 1000000 in
theorem row_range (n size : Int) (w : World) (h0 : 0 ≤ size) (h1 : size ≤ 62) (h : n < 0 ∨ 2 ^ size.toNat ≤ n) :
    Calls Tryd.prog 43 #[.int .i64 n, .int .i64 size] w fun e w' => e = .returned (.tuple #[.string ⟨#[]⟩, .int .i64 3]) ∧ w' = w := by
  by_cases hn : n < 0
  · clear h
    go_enter Tryd.func43, Tryd.ntmps43
    go_wp2_with fail
    go_ret2
    exact ⟨rfl, rfl⟩
  · have h2 : 2 ^ size.toNat ≤ n := by omega
    have hq : (n / 2 ^ size.toNat == 0) = false := by
      have hp : (0 : Int) < 2 ^ size.toNat := Int.pow_pos (by omega)
      have : 1 ≤ n / 2 ^ size.toNat := (Int.le_ediv_iff_mul_le hp).2 (by omega)
      simp; omega
    clear h h2
    go_enter Tryd.func43, Tryd.ntmps43
    go_wp2_with fail
    go_ret2
    exact ⟨rfl, rfl⟩

set_option maxHeartbeats 1000000 in
theorem row_ok (n size : Nat) (w : World) (h1 : size ≤ 62) (h : n < 2 ^ size) :
    Calls Tryd.prog 43 #[.int .i64 n, .int .i64 size] w fun e w' => e = .returned (.tuple #[.string ⟨(bitsHead n size size).toArray⟩, .int .i64 0]) ∧ Below w.heap.size w w' := by
  have hq : (n : Int) / 2 ^ size = 0 := by
    have : n / 2 ^ size = 0 := Nat.div_eq_of_lt h
    have e : (n : Int) / 2 ^ size = ((n / 2 ^ size : Nat) : Int) := by simp
    rw [e, this]; rfl
  have hn : n < 2 ^ 63 := Nat.lt_of_lt_of_le h (Nat.pow_le_pow_right (by omega) (by omega))
  have HN : Hid (n < 2 ^ 63) := hn
  clear h hn
  go_enter Tryd.func43, Tryd.ntmps43
  go_wp2_with fail
  refine (appendBits_any (.slice none 0 0) 0 [] n size w w.heap.size (Nat.le_refl _) rfl (by omega) HN.out h1 (World.ownsRow_nil _ _ _ _)).mono ?_
  rintro e w1 ⟨v', rfl, hown, hbel⟩
  have hcv := convert_own hown
  clear hown
  go_wp2_with fail
  go_ret2
  exact ⟨rfl, hbel⟩
end Bw
end Go.Proofs.YtdhmjbnpdmneiacDoor

/- What bits.Of answers of any bytes: each one's eight bits, one behind the other; too many: an error. -/
namespace Go.Proofs.YtdhmjbnpdmneiacDoor
open Go.ChangeShapes Go.WideShapes Go.ChangeAt Go.RowKit
namespace Bw
open Bm

set_option maxHeartbeats 1000000 in
theorem of_many (a : Option Addr) (len cap : Nat) (w : World) (hl : 125 < len) (hm : len ≤ maxLen) :
    Calls Tryd.prog 20 #[.slice a len cap] w fun e w' => e = .returned (.tuple #[.string ⟨#[]⟩, .int .i64 2]) ∧ w' = w := by
  unfold maxLen at hm
  go_enter Tryd.func20, Tryd.ntmps20
  go_wp2_with fail
  go_ret2
  exact ⟨rfl, rfl⟩

set_option maxHeartbeats 2000000 in
theorem of_any (a : Option Addr) (len cap : Nat) (l : List UInt8) (w : World) (hl : len ≤ 125) (hr : IsBytes w a len cap l) :
    Calls Tryd.prog 20 #[.slice a len cap] w fun e w' => e = .returned (.tuple #[.string ⟨(ofL l).toArray⟩, .int .i64 0]) ∧ Below w.heap.size w w' := by
  obtain ⟨hlen, _, _, hnil, hcells⟩ := hr
  have HC : Hid (∀ x, a = some x → ∀ i, i < len → w.cell? (x.add i) = some (.int .u8 (l.getD i 0).toNat)) := hcells
  have HN : Hid (a = none → len = 0) := hnil
  have HL : Hid (l.length = len) := hlen
  clear hcells hnil hlen
  go_enter Tryd.func20, Tryd.ntmps20
  go_wp2_with fail
  go_loopw [4, 12] (fun r i wr => ∃ k : Nat, k ≤ len ∧ i = .int .i64 k ∧ wr.ownsRow w.heap.size 5 1 r (8 * k) (cellsOf (ofL (l.take k))) ∧ Below w.heap.size w wr) (fun _ i _ => len - (intOf i).toNat)
  case atStart => exact ⟨0, Nat.zero_le _, rfl, by simpa [ofL, cellsOf] using World.ownsRow_nil _ _ _ _, Below.refl _ _⟩
  case round =>
    obtain ⟨k, hk, rfl, hown, hbel⟩ := hrel
    by_cases hlt : k < len
    · cases a with
      | none => exact absurd (HN.out rfl) (by omega)
      | some x =>
        have hc := cell_kept hbel (HC.out x rfl k hlt)
        have hlt' : (k : Int) < (len : Int) := by omega
        obtain ⟨c, hcE⟩ : ∃ c, c = l.getD k 0 := ⟨_, rfl⟩
        rw [← hcE] at hc
        have HE : Hid (c = l.getD k 0) := hcE
        clear hcE
        have hcb : (c.toNat : Int) ≤ 255 := by have := c.toNat_lt; omega
        go_wp2_with fail
        refine (appendBits_any u4 (8 * k) (ofL (l.take k)) c.toNat 8 wr w.heap.size hbel.size ?_ (by omega) (by omega) (by omega) hown).mono ?_
        · rw [ofL_length, List.length_take]; have := HL.out; omega
        rintro e w1 ⟨v', rfl, hown1, hbel1⟩
        have hown2 : w1.ownsRow w.heap.size 5 1 v' (8 * (k + 1)) (cellsOf (ofL (l.take (k + 1)))) := by
          rw [take_snocL l k (by have := HL.out; omega), ofL_snoc, ← HE.out]
          exact hown1
        clear hown1 hown
        go_wp2_with fail
        go_roundw
        case rel => exact ⟨k + 1, by omega, by go_num, hown2, hbel.trans hbel1⟩
        case measure => simp [intOf]; omega
    · have e : k = len := by omega
      subst e
      have hcv := convert_own hown
      rw [List.take_of_length_le (by have := HL.out; omega)] at hcv
      clear hown
      go_wp2_with fail
      go_ret2
      exact ⟨rfl, hbel⟩
end Bw
end Go.Proofs.YtdhmjbnpdmneiacDoor

/- What bits.Bytes answers of any text: the bytes that a row of whole bytes tells, in new memory, and else which error. -/
namespace Go.Proofs.YtdhmjbnpdmneiacDoor
open Go.ChangeShapes Go.WideShapes Go.ChangeAt Go.RowKit
namespace Bw
open Bm

def byteAt (l : List UInt8) (i : Nat) : UInt8 := UInt8.ofNat (val ((l.drop (8 * i)).take 8))
def partL (l : List UInt8) (n k : Nat) : List UInt8 := (List.range n).map fun i => if i < k then byteAt l i else 0
def bytesL (l : List UInt8) : List UInt8 := (List.range (l.length / 8)).map (byteAt l)

theorem partL_length (l : List UInt8) (n k : Nat) : (partL l n k).length = n := by simp [partL]
theorem partL_zero (l : List UInt8) (n : Nat) : cellsOf (partL l n 0) = List.replicate n (Value.int .u8 0) := by
  apply List.ext_getElem?
  intro j
  by_cases hj : j < n <;> simp [partL, cellsOf, hj]
theorem partL_succ (l : List UInt8) (n k : Nat) : (cellsOf (partL l n k)).set k (.int .u8 (byteAt l k).toNat) = cellsOf (partL l n (k + 1)) := by
  apply List.ext_getElem?
  intro j
  rw [List.getElem?_set]
  by_cases hj : j < n
  · by_cases hjk : k = j
    · subst hjk; simp [partL, cellsOf, hj]
    · have h1 : (j < k + 1) = (j < k) := by simp; omega
      simp [partL, cellsOf, hj, hjk, h1]
  · simp [partL, cellsOf, hj]; omega
theorem partL_full (l : List UInt8) (n : Nat) (h : l.length / 8 = n) : partL l n n = bytesL l := by
  unfold partL bytesL
  rw [h]
  apply List.map_congr_left
  intro i hi
  rw [if_pos (by simpa using hi)]

set_option maxHeartbeats 1000000 in
theorem bytes_bad (s : ByteArray) (w : World) (hs : s.size ≤ maxLen) (hc : checkE s.data.toList ≠ 0) :
    Calls Tryd.prog 66 #[.string s] w fun e w' => e = .returned (.tuple #[.slice none 0 0, .int .i64 (checkE s.data.toList)]) ∧ Below w.heap.size w w' := by
  have HS : Hid (s.size ≤ maxLen) := hs
  have hc' : (checkE s.data.toList == 0) = false := by simpa using hc
  clear hs
  go_enter Tryd.func66, Tryd.ntmps66
  go_wp2_with fail
  refine (check_any s w HS.out).mono ?_
  rintro e w1 ⟨rfl, hb1⟩
  go_wp2_with fail
  go_ret2
  exact ⟨rfl, hb1⟩

set_option maxHeartbeats 1000000 in
theorem bytes_form (s : ByteArray) (w : World) (hc : checkE s.data.toList = 0) (h8 : s.size % 8 ≠ 0) :
    Calls Tryd.prog 66 #[.string s] w fun e w' => e = .returned (.tuple #[.slice none 0 0, .int .i64 4]) ∧ Below w.heap.size w w' := by
  have h1000 := (small_of_check hc).1
  have hck := fun W => check_any s W (by unfold maxLen; omega)
  rw [hc] at hck
  have h8' : (((s.size : Int) % 8) == 0) = false := by simp; omega
  clear hc
  go_enter Tryd.func66, Tryd.ntmps66
  go_wp2_with fail
  refine (hck w).mono ?_
  rintro e w1 ⟨rfl, hb1⟩
  clear hck
  go_wp2_with fail
  go_ret2
  exact ⟨rfl, hb1⟩

set_option maxHeartbeats 2000000 in
theorem bytes_ok (s : ByteArray) (w : World) (hc : checkE s.data.toList = 0) (n : Nat) (h8 : s.size = 8 * n) :
    Calls Tryd.prog 66 #[.string s] w fun e w' => ∃ v, e = .returned (.tuple #[v, .int .i64 0]) ∧ w'.ownsRow w.heap.size 5 1 v n (cellsOf (bytesL s.data.toList)) ∧ Below w.heap.size w w' := by
  have h1000 := (small_of_check hc).1
  have HR : Hid (rowB s.data.toList = true) := (small_of_check hc).2
  have hck := fun W => check_any s W (by unfold maxLen; omega)
  rw [hc] at hck
  have h8' : (s.size : Int) % 8 = 0 := by omega
  have hdiv : (s.size : Int) / 8 = (n : Int) := by omega
  have H8 : Hid (s.size = 8 * n) := h8
  have hn : n ≤ 125 := by omega
  clear hc h8
  obtain ⟨i0, hi, hz0, hz1, hz2⟩ := info_parts info_u8
  go_enter Tryd.func66, Tryd.ntmps66
  go_wp2_with fail
  refine (hck w).mono ?_
  rintro e w1 ⟨rfl, hb1⟩
  clear hck
  go_wp2_with (at_make; refine wpList_make_full _ rfl (.tmp 18) (.tmp 18) 31 rfl w.heap.size 5 i0 (.int .u8 0) 1 Tryd.underlying31 hi hz0 hz1 .i64 .i64 _ _ n rfl rfl (by omega) (by omega) (by rw [hz2]; omega) (by unfold maxLen; omega) hb1.size ?_; intro w2 hown hgrow)
  have hown0 : w2.ownsRow w.heap.size 5 1 (.slice (some ⟨w1.heap.size, 0, none⟩) n n) n (cellsOf (partL s.data.toList n 0)) := by
    rw [partL_zero, ← toList_madeCells_one]
    rw [Nat.mul_one] at hown
    exact hown
  have hb2 : Below w.heap.size w w2 := Below.grown hb1 hgrow hb1.size (fun q hq => by cases hq)
  clear hown hgrow h8' hdiv
  go_wp2_with fail
  go_loopw [22] (fun i wr => ∃ k : Nat, k ≤ n ∧ i = .int .i64 k ∧ wr.ownsRow w.heap.size 5 1 (.slice (some ⟨w1.heap.size, 0, none⟩) n n) n (cellsOf (partL s.data.toList n k)) ∧ Below w.heap.size w wr) (fun i _ => n - (intOf i).toNat)
  case atStart => exact ⟨0, Nat.zero_le _, rfl, hown0, hb2⟩
  case round =>
    clear hown0 hb2
    obtain ⟨k, hk, rfl, hown, hbel⟩ := hrel
    by_cases hlt : k < n
    · have hlt' : (k : Int) < (n : Int) := by omega
      have hsz : (k : Int) * 8 + 8 ≤ (s.size : Int) := by have := H8.out; omega
      have hsl : ∀ W, (Instr.slice 9 (.string s) (some (.int .i64 ((k : Int) * 8))) (some (.int .i64 (((k : Int) + 1) * 8))) none).run Tryd.prog W = .ok (.string (s.extract (8 * k) (8 * k + 8))) W := by
        intro W
        rw [run_slice_string W _ s _ _ _ _ Tryd.underlying9 (by omega) (by omega) (by omega)]
        have e1 : ((k : Int) * 8).toNat = 8 * k := by omega
        have e2 : (((k : Int) + 1) * 8).toNat = 8 * k + 8 := by omega
        rw [e1, e2]
      obtain ⟨t, htE⟩ : ∃ t, t = s.extract (8 * k) (8 * k + 8) := ⟨_, rfl⟩
      rw [← htE] at hsl
      have hts := congrArg ByteArray.size htE
      rw [ByteArray.size_extract] at hts
      have hts2 : t.size = 8 := by have := H8.out; omega
      have htl : t.data.toList = (s.data.toList.drop (8 * k)).take 8 := by rw [htE]; exact extract_list s (8 * k) 8
      have hcellv := fun W => value_any t W (by omega) (by rw [htl]; exact rowB_take (rowB_drop HR.out _) _)
      have hv255 : val t.data.toList < 256 := by
        have h1 := val_lt t.data.toList (by rw [htl]; exact rowB_take (rowB_drop HR.out _) _)
        have h2 : t.data.toList.length = 8 := by simpa using hts2
        rw [h2] at h1; exact h1
      have HB : Hid (Value.int .u8 (val t.data.toList) = Value.int .u8 (byteAt s.data.toList k).toNat) := by
        unfold byteAt
        rw [← htl]
        have : (UInt8.ofNat (val t.data.toList)).toNat = val t.data.toList := by simp; omega
        show _ = _
        rw [this]
      clear hi hz0 hz1 hz2 htE hts htl hts2
      generalize val t.data.toList = vv at *
      go_wp2_with fail
      refine (hcellv wr).mono ?_
      rintro e w3 ⟨rfl, hb3⟩
      have hown3 := ownsRow_below hown hb3
      have hc3 := hown3.cellAt k (by omega)
      have hf3 := hown3.frozenAt k
      rw [show (cellsOf (partL s.data.toList n k))[k]? = some ((cellsOf (partL s.data.toList n k))[k]'(by rw [cellsOf_length, partL_length]; exact hlt)) from List.getElem?_eq_getElem _] at hc3
      have hst := hown3.stored k (.int .u8 vv)
      rw [HB.out, partL_succ] at hst
      rw [← HB.out] at hst
      have hown4 := hst.1
      have hb4 := (hbel.trans (hb3.mono hbel.size)).grown hst.2 (Nat.le_trans hbel.size hb3.size) (fun q hq => by cases hq; exact hb1.size)
      have HO4 := Hid.mk hown4
      clear hown hown3 hst hown4 hcellv
      go_wp2_with fail
      go_roundw
      case rel => exact ⟨k + 1, by omega, by go_num, HO4.out, hb4⟩
      case measure => simp [intOf]; omega
    · have e : k = n := by omega
      subst e
      rw [partL_full _ _ (by have := H8.out; simp; omega)] at hown
      go_wp2_with fail
      go_ret2
      exact ⟨_, rfl, hown, hbel⟩
end Bw
end Go.Proofs.YtdhmjbnpdmneiacDoor

/- Reading a frame, as plain functions on lists: what is under way, part by part; of no program. -/
namespace Go.Proofs.YtdhmjbnpdmneiacDoor
namespace Bw
open Bm Cm

/-- what is under way: the fault that was told, how many bits are read, what was taken -/
structure RS where
  fl : Int
  u : Nat
  o : List UInt8
def failP (S : RS) (e : Int) : RS := if S.fl = 0 then ⟨e, S.u, S.o⟩ else S
def takeP (b : List UInt8) (S : RS) (n : Nat) : List UInt8 × RS :=
  if S.fl = 0 then
    (if (takeG b (S.o.length + n) 0 []).2.2 = 0 then ((takeG b (S.o.length + n) 0 []).1.drop S.o.length, ⟨0, (takeG b (S.o.length + n) 0 []).2.1, (takeG b (S.o.length + n) 0 []).1⟩)
     else ([], ⟨(takeG b (S.o.length + n) 0 []).2.2, S.u, S.o⟩))
  else ([], S)
def numP (b : List UInt8) (S : RS) (n : Nat) : Nat × RS := (val (takeP b S n).1, (takeP b S n).2)
def wstep (b : List UInt8) (S : RS) (c : UInt8) : RS := if (takeP b S 1).1 = [c] then (takeP b S 1).2 else failP (takeP b S 1).2 4
def wantP (b : List UInt8) (S : RS) (l : List UInt8) : RS := l.foldl (wstep b) S
theorem wantP_snoc (b : List UInt8) (S : RS) (l : List UInt8) (c : UInt8) : wantP b S (l ++ [c]) = wstep b (wantP b S l) c := by simp [wantP]
/-- so many bits as they stand -/
def nextP (b : List UInt8) (S : RS) (n : Nat) : List UInt8 × RS :=
  if S.fl = 0 then (if b.length < S.u + n then ([], ⟨7, S.u, S.o⟩) else ((b.drop S.u).take n, ⟨0, S.u + n, S.o⟩)) else ([], S)

def nm1 (b : List UInt8) (S : RS) : RS := wantP b S [48]
def nmN (b : List UInt8) (S : RS) : Nat × RS := numP b (nm1 b S) 11
def nmF (b : List UInt8) (S : RS) : List UInt8 × RS := takeP b (nmN b S).2 1
def nmL (b : List UInt8) (S : RS) : List UInt8 × RS := takeP b (nmF b S).2 1
def nm5 (b : List UInt8) (S : RS) : RS := if (nmF b S).1 = [49] then (nmL b S).2 else failP (nmL b S).2 4
def nmM (b : List UInt8) (S : RS) : Nat × RS := numP b (nm5 b S) 18
def nmR (b : List UInt8) (S : RS) : List UInt8 × RS := takeP b (nmM b S).2 1
/-- what was read of a name -/
structure NmR where
  S : RS
  id : Nat
  lo : Bool
  re : Bool
def nameP (b : List UInt8) (S : RS) : NmR :=
  if (nmL b S).1 = [49] then ⟨(nmR b S).2, (nmN b S).1 * 262144 + (nmM b S).1, true, decide ((nmR b S).1 = [49])⟩
  else ⟨(nmL b S).2, (nmN b S).1, false, decide ((nmF b S).1 = [49])⟩
def formP (b : List UInt8) (S : RS) (lo re : Bool) : RS × Bool :=
  if (takeP b S 1).1 = [49] then (if re then failP (takeP b S 1).2 4 else wantP b (takeP b S 1).2 [48, 49, 48], true)
  else (if lo then wantP b (takeP b S 1).2 [48] else (takeP b S 1).2, false)
def topD (fa : Bool) : Nat := if fa then 64 else 8
def dtN (b : List UInt8) (S : RS) : Nat := sizesL.getD (numP b S 4).1 0
def dt2 (b : List UInt8) (S : RS) (fa : Bool) : RS := if topD fa < dtN b S then failP (numP b S 4).2 4 else (numP b S 4).2
/-- what was read of the data -/
structure DtR where
  S : RS
  sz : Nat
  dt : List UInt8
def dataP (b : List UInt8) (S : RS) (fa re : Bool) : DtR :=
  if re then ⟨dt2 b S fa, dtN b S, []⟩ else ⟨(takeP b (dt2 b S fa) (8 * dtN b S)).2, 0, bytesL (takeP b (dt2 b S fa) (8 * dtN b S)).1⟩
def sumP (b : List UInt8) (S : RS) : RS := if (takeP b S 15).1 = sumL 0 S.o then (takeP b S 15).2 else failP (takeP b S 15).2 6
/-- without each fifth, the first being one -/
def unfixL : List UInt8 → Nat → List UInt8
  | [], _ => []
  | c :: l, i => if i % 5 = 0 then unfixL l (i + 1) else c :: unfixL l (i + 1)
def fixedP (b : List UInt8) (S : RS) (n : Nat) : RS :=
  if S.fl = 0 then
    (if (nextP b S (fastL S.o (b.take S.u) n).length).1 = fixL (unfixL (nextP b S (fastL S.o (b.take S.u) n).length).1 0) (lastB (b.take S.u)) then
      (if (nextP b S (fastL S.o (b.take S.u) n).length).1 = fastL S.o (b.take S.u) n then (nextP b S (fastL S.o (b.take S.u) n).length).2 else failP (nextP b S (fastL S.o (b.take S.u) n).length).2 6)
     else failP (nextP b S (fastL S.o (b.take S.u) n).length).2 5)
  else S
def heardL : List UInt8 := [49, 48, 49, 49, 49, 49, 49, 49, 49, 49]
def endP (b : List UInt8) (S : RS) : RS := if (nextP b S 10).1 = onesL ∨ (nextP b S 10).1 = heardL then (nextP b S 10).2 else failP (nextP b S 10).2 4
def rdA (b : List UInt8) : NmR := nameP b ⟨0, 0, []⟩
def rdB (b : List UInt8) : RS × Bool := formP b (rdA b).S (rdA b).lo (rdA b).re
def rdD (b : List UInt8) : DtR := dataP b (rdB b).1 (rdB b).2 (rdA b).re
def rdS (b : List UInt8) : RS := if (rdB b).2 then fixedP b (rdD b).S (rdD b).dt.length else sumP b (rdD b).S
def rdE (b : List UInt8) : RS := endP b (rdS b)
def rdF (b : List UInt8) : Fr := ⟨(rdA b).id, (rdA b).lo, (rdB b).2, (rdA b).re, (rdD b).sz, (rdD b).dt⟩

theorem takeG_row (b : List UInt8) (hb : rowB b = true) : ∀ m u o, rowB o = true → rowB (takeG b m u o).1 = true
  | 0, _, _, ho => ho
  | m + 1, u, o, ho => by
    rw [takeG]
    split
    · rfl
    · rename_i h
      have hbit : bit (b.getD u 0) = true := by
        have hu : u < b.length := by omega
        rw [List.getD, List.getElem?_eq_getElem hu, Option.getD_some]
        exact rowB_all.1 hb _ (List.getElem_mem hu)
      have ho' : rowB (o ++ [b.getD u 0]) = true := by rw [rowB_snoc, ho, hbit]; rfl
      split
      · split
        · rfl
        · split
          · rfl
          · exact takeG_row b hb m _ _ ho'
      · exact takeG_row b hb m _ _ ho'
theorem takeG_len (b : List UInt8) (m : Nat) : (takeG b m 0 []).2.2 = 0 → (takeG b m 0 []).1.length = m := by
  intro h
  have := (takeG_ok b m 0 [] (takeG b m 0 []).1 (takeG b m 0 []).2.1 (by rw [← h])).1
  simpa using this

theorem takeG_in (b : List UInt8) : ∀ m u o, u ≤ b.length → o.length ≤ u → (takeG b m u o).2.2 = 0 → (takeG b m u o).2.1 ≤ b.length ∧ (takeG b m u o).1.length ≤ (takeG b m u o).2.1
  | 0, _, _, h1, h2, _ => ⟨h1, h2⟩
  | m + 1, u, o, h1, h2, h => by
    rw [takeG] at h ⊢
    split at h
    · cases h
    · rename_i hu
      rw [if_neg hu]
      split at h
      · rename_i h5
        rw [if_pos h5]
        split at h
        · cases h
        · rename_i hu2
          rw [if_neg hu2]
          split at h
          · cases h
          · rename_i h6
            rw [if_neg h6]
            exact takeG_in b m _ _ (by omega) (by simp; omega) h
      · rename_i h5
        rw [if_neg h5]
        exact takeG_in b m _ _ (by omega) (by simp; omega) h
/-- what is under way is right: a row, and no more than is there -/
structure Inv (b : List UInt8) (S : RS) (n : Nat) : Prop where
  row : rowB S.o = true
  u : S.u ≤ b.length
  ou : S.o.length ≤ S.u
  n : S.o.length ≤ n
theorem Inv.start (b : List UInt8) : Inv b ⟨0, 0, []⟩ 0 := ⟨rfl, Nat.zero_le _, Nat.le_refl _, Nat.le_refl _⟩
theorem Inv.up {b : List UInt8} {S : RS} {n m : Nat} (h : Inv b S n) (hm : n ≤ m) : Inv b S m := ⟨h.row, h.u, h.ou, Nat.le_trans h.n hm⟩
theorem Inv.fail {b : List UInt8} {S : RS} {n : Nat} (h : Inv b S n) (e : Int) : Inv b (failP S e) n := by
  unfold failP
  split
  · exact ⟨h.row, h.u, h.ou, h.n⟩
  · exact h
theorem Inv.take {b : List UInt8} {S : RS} {n : Nat} (hb : rowB b = true) (h : Inv b S n) (k : Nat) : Inv b (takeP b S k).2 (n + k) := by
  unfold takeP
  split
  · split
    · rename_i h0
      have h1 := takeG_in b (S.o.length + k) 0 [] (Nat.zero_le _) (Nat.le_refl _) h0
      refine ⟨takeG_row b hb _ _ _ rfl, h1.1, h1.2, ?_⟩
      show (takeG b (S.o.length + k) 0 []).1.length ≤ _
      rw [takeG_len b _ h0]
      have := h.n
      omega
    · exact ⟨h.row, h.u, h.ou, by have := h.n; show S.o.length ≤ _; omega⟩
  · exact h.up (by omega)
theorem Inv.num {b : List UInt8} {S : RS} {n : Nat} (hb : rowB b = true) (h : Inv b S n) (k : Nat) : Inv b (numP b S k).2 (n + k) := h.take hb k
theorem Inv.wstep {b : List UInt8} {S : RS} {n : Nat} (hb : rowB b = true) (h : Inv b S n) (c : UInt8) : Inv b (wstep b S c) (n + 1) := by
  unfold Bw.wstep
  split
  · exact h.take hb 1
  · exact (h.take hb 1).fail 4
theorem Inv.want {b : List UInt8} (hb : rowB b = true) : ∀ (l : List UInt8) {S : RS} {n : Nat}, Inv b S n → Inv b (wantP b S l) (n + l.length)
  | [], _, _, h => h
  | c :: l, _, n, h => by
    have := Inv.want hb l (h.wstep hb c)
    rw [List.length_cons, show n + (l.length + 1) = n + 1 + l.length by omega]
    exact this
theorem Inv.next {b : List UInt8} {S : RS} {n : Nat} (h : Inv b S n) (k : Nat) : Inv b (nextP b S k).2 n := by
  unfold nextP
  split
  · split
    · exact ⟨h.row, h.u, h.ou, h.n⟩
    · exact ⟨h.row, by show S.u + k ≤ _; omega, by have := h.ou; show S.o.length ≤ S.u + k; omega, h.n⟩
  · exact h
/-- what was taken: so many bits, or none -/
theorem takeP_len (b : List UInt8) (S : RS) (k : Nat) : (takeP b S k).1.length = k ∨ (takeP b S k).1 = [] := by
  unfold takeP
  split
  · split
    · rename_i h0
      left
      rw [List.length_drop, takeG_len b _ h0]; omega
    · exact .inr rfl
  · exact .inr rfl
theorem takeP_row (b : List UInt8) (hb : rowB b = true) (S : RS) (k : Nat) : rowB (takeP b S k).1 = true := by
  unfold takeP
  split
  · split
    · exact rowB_drop (takeG_row b hb _ _ _ rfl) _
    · rfl
  · rfl
theorem rowB_dropP {l : List UInt8} (h : rowB l = true) (k : Nat) : rowB (l.drop k) = true := rowB_drop h k
theorem nextP_row (b : List UInt8) (hb : rowB b = true) (S : RS) (k : Nat) : rowB (nextP b S k).1 = true := by
  unfold nextP
  split
  · split
    · rfl
    · exact rowB_take (rowB_drop hb _) _
  · rfl
theorem nextP_len (b : List UInt8) (S : RS) (k : Nat) : (nextP b S k).1.length ≤ k := by
  unfold nextP
  split
  · split
    · exact Nat.zero_le _
    · simp; omega
  · exact Nat.zero_le _
theorem numP_lt (b : List UInt8) (hb : rowB b = true) (S : RS) (k : Nat) : (numP b S k).1 < 2 ^ k := by
  have h := val_lt _ (takeP_row b hb S k)
  rcases takeP_len b S k with h1 | h1
  · rw [h1] at h; exact h
  · show val (takeP b S k).1 < _
    rw [h1]; exact Nat.two_pow_pos k

/-- where one is when p was taken of what Put made -/
def stP (p : List UInt8) : RS := ⟨0, (putF p).length, p⟩
theorem takeP_put (T r p c t : List UInt8) (n : Nat) (hT : T = p ++ (c ++ t)) (hrow : rowB T = true) (hn : c.length = n) : takeP (putF T ++ r) (stP p) n = (c, stP (p ++ c)) := by
  subst hn
  have hT' : T = (p ++ c) ++ t := by rw [hT, List.append_assoc]
  obtain ⟨t', ht'⟩ := putF_append (p ++ c) t
  have hrow' : rowB ([] ++ (p ++ c)) = true := by
    rw [hT', rowB_append] at hrow
    simp only [Bool.and_eq_true] at hrow
    exact hrow.1
  have h := take_put (t' ++ r) (p ++ c) [] hrow'
  rw [List.nil_append, putF_nil, List.length_nil, List.length_append] at h
  have hb : putF T ++ r = putF (p ++ c) ++ (t' ++ r) := by rw [hT', ht', List.append_assoc]
  unfold takeP stP
  simp only
  rw [if_pos trivial, hb, h]
  simp
theorem numP_put (T r p c t : List UInt8) (n : Nat) (hT : T = p ++ (c ++ t)) (hrow : rowB T = true) (hn : c.length = n) : numP (putF T ++ r) (stP p) n = (val c, stP (p ++ c)) := by
  unfold numP
  rw [takeP_put T r p c t n hT hrow hn]
theorem wstep_put (T r p t : List UInt8) (c : UInt8) (hT : T = p ++ ([c] ++ t)) (hrow : rowB T = true) : wstep (putF T ++ r) (stP p) c = stP (p ++ [c]) := by
  unfold wstep
  rw [takeP_put T r p [c] t 1 hT hrow rfl, if_pos rfl]

theorem name_short (T r t : List UInt8) (id : Nat) (re : Bool) (hid : id < 2 ^ 11) (hT : T = [48] ++ (bitsHead id 11 11 ++ ([bitB re] ++ ([48] ++ t)))) (hrow : rowB T = true) :
    nameP (putF T ++ r) ⟨0, 0, []⟩ = ⟨stP ([48] ++ bitsHead id 11 11 ++ [bitB re] ++ [48]), id, false, re⟩ := by
  have h0 : (⟨0, 0, []⟩ : RS) = stP [] := rfl
  rw [h0]
  have h1 : nm1 (putF T ++ r) (stP []) = stP [48] := by
    unfold nm1 wantP
    exact wstep_put T r [] _ 48 hT hrow
  have h2 : nmN (putF T ++ r) (stP []) = (id, stP ([48] ++ bitsHead id 11 11)) := by
    unfold nmN
    rw [h1, numP_put T r [48] (bitsHead id 11 11) _ 11 hT hrow (bitsHead_length _ _ _), val_row _ _ hid]
  have h3 : nmF (putF T ++ r) (stP []) = ([bitB re], stP ([48] ++ bitsHead id 11 11 ++ [bitB re])) := by
    unfold nmF
    rw [h2]
    exact takeP_put T r ([48] ++ bitsHead id 11 11) [bitB re] ([48] ++ t) 1 (by rw [hT]; simp) hrow rfl
  have h4 : nmL (putF T ++ r) (stP []) = ([48], stP ([48] ++ bitsHead id 11 11 ++ [bitB re] ++ [48])) := by
    unfold nmL
    rw [h3]
    exact takeP_put T r ([48] ++ bitsHead id 11 11 ++ [bitB re]) [48] t 1 (by rw [hT]; simp) hrow rfl
  unfold nameP
  rw [h4, h3, h2]
  simp only
  rw [if_neg (by decide)]
  cases re <;> rfl
theorem name_long (T r t x y : List UInt8) (id : Nat) (re : Bool) (hx : x.length = 11) (hy : y.length = 18) (hxy : val x * 262144 + val y = id) (hT : T = [48] ++ (x ++ ([49] ++ ([49] ++ (y ++ ([bitB re] ++ t)))))) (hrow : rowB T = true) :
    nameP (putF T ++ r) ⟨0, 0, []⟩ = ⟨stP ([48] ++ x ++ [49] ++ [49] ++ y ++ [bitB re]), id, true, re⟩ := by
  have h0 : (⟨0, 0, []⟩ : RS) = stP [] := rfl
  rw [h0]
  have h1 : nm1 (putF T ++ r) (stP []) = stP [48] := by
    unfold nm1 wantP
    exact wstep_put T r [] _ 48 hT hrow
  have h2 : nmN (putF T ++ r) (stP []) = (val x, stP ([48] ++ x)) := by
    unfold nmN
    rw [h1, numP_put T r [48] x _ 11 hT hrow hx]
  have h3 : nmF (putF T ++ r) (stP []) = ([49], stP ([48] ++ x ++ [49])) := by
    unfold nmF
    rw [h2]
    exact takeP_put T r ([48] ++ x) [49] ([49] ++ (y ++ ([bitB re] ++ t))) 1 (by rw [hT]; simp) hrow rfl
  have h4 : nmL (putF T ++ r) (stP []) = ([49], stP ([48] ++ x ++ [49] ++ [49])) := by
    unfold nmL
    rw [h3]
    exact takeP_put T r ([48] ++ x ++ [49]) [49] (y ++ ([bitB re] ++ t)) 1 (by rw [hT]; simp) hrow rfl
  have h5 : nm5 (putF T ++ r) (stP []) = stP ([48] ++ x ++ [49] ++ [49]) := by
    unfold nm5
    rw [h3, h4, if_pos rfl]
  have h6 : nmM (putF T ++ r) (stP []) = (val y, stP ([48] ++ x ++ [49] ++ [49] ++ y)) := by
    unfold nmM
    rw [h5]
    exact numP_put T r ([48] ++ x ++ [49] ++ [49]) y ([bitB re] ++ t) 18 (by rw [hT]; simp) hrow hy
  have h7 : nmR (putF T ++ r) (stP []) = ([bitB re], stP ([48] ++ x ++ [49] ++ [49] ++ y ++ [bitB re])) := by
    unfold nmR
    rw [h6]
    exact takeP_put T r ([48] ++ x ++ [49] ++ [49] ++ y) [bitB re] t 1 (by rw [hT]; simp) hrow rfl
  unfold nameP
  rw [h4, h7, h2, h6]
  simp only
  rw [if_pos trivial, hxy]
  cases re <;> rfl
end Bw
end Go.Proofs.YtdhmjbnpdmneiacDoor

/- What is sent is read: plain facts on lists; of no program. -/
namespace Go.Proofs.YtdhmjbnpdmneiacDoor
namespace Bw
open Bm Cm

theorem unfix_fix (l : List UInt8) (a : UInt8) : ∀ i, i ≤ l.length → unfixL (fixR l a i) 0 = l.take i ∧ (fixR l a i).length = i + (i + 3) / 4
  | 0, _ => by simp [fixR, unfixL]
  | i + 1, h => by
    obtain ⟨h1, h2⟩ := unfix_fix l a i (by omega)
    have hs : ∀ (x : List UInt8) (j : Nat) (c : UInt8), unfixL (x ++ [c]) j = unfixL x j ++ (if (j + x.length) % 5 = 0 then [] else [c]) := by
      intro x
      induction x with
      | nil => intro j c; simp only [List.nil_append, unfixL, List.length_nil, Nat.add_zero]
      | cons d x ih =>
        intro j c
        rw [List.cons_append, unfixL, unfixL, ih, List.length_cons, show j + 1 + x.length = j + (x.length + 1) by omega]
        split <;> simp
    have ht : l.take (i + 1) = l.take i ++ [l.getD i 0] := take_snocL l i (by omega)
    rw [fixR]
    by_cases h4 : i % 4 = 0
    · rw [if_pos h4]
      refine ⟨?_, by simp [h2]; omega⟩
      rw [hs, hs, h1, ht, h2]
      have e1 : (0 + (i + (i + 3) / 4)) % 5 = 0 := by omega
      have e2 : ¬ (0 + (fixR l a i ++ [otb (fixP l a i)]).length) % 5 = 0 := by simp [h2]; omega
      rw [if_pos e1, if_neg e2]; simp
    · rw [if_neg h4]
      refine ⟨?_, by simp [h2]; omega⟩
      rw [hs, h1, ht, h2]
      have e2 : ¬ (0 + (i + (i + 3) / 4)) % 5 = 0 := by omega
      rw [if_neg e2]
theorem unfix_fixL (l : List UInt8) (a : UInt8) : unfixL (fixL l a) 0 = l := by
  unfold fixL
  rw [(unfix_fix l a l.length (Nat.le_refl _)).1, List.take_length]
theorem bytesL_ofL (l : List UInt8) : bytesL (ofL l) = l := by
  unfold bytesL
  rw [ofL_length, Nat.mul_div_cancel_left _ (by omega : 0 < 8)]
  apply List.ext_getElem
  · simp
  intro i h1 h2
  have hi : i < l.length := h2
  simp only [List.getElem_map, List.getElem_range]
  unfold byteAt
  rw [ofL_drop, List.drop_eq_getElem_cons hi, ofL_cons, List.take_append_of_le_length (by rw [bitsHead_length]; omega), List.take_of_length_le (by rw [bitsHead_length]; omega), val_row _ _ (by have := (l[i]).toNat_lt; omega)]
  exact UInt8.ofNat_toNat
theorem sizes_at {n : Nat} (h : n ∈ sizesL) : sizesL.getD (sizesL.idxOf n) 0 = n ∧ sizesL.idxOf n < 16 ∧ n ≤ 64 := by
  have : ∀ m ∈ sizesL, sizesL.getD (sizesL.idxOf m) 0 = m ∧ sizesL.idxOf m < 16 ∧ m ≤ 64 := by decide +kernel
  exact this n h
theorem sizes_small {n : Nat} (h : n ≤ 8) : sizesL.getD n 0 = n := by
  have : ∀ m : Fin 9, sizesL.getD m 0 = m := by decide +kernel
  exact this ⟨n, by omega⟩
/-- what is read ahead of the form -/
theorem name_back (f : Fr) (T r t : List UInt8) (hE : frE f = 0) (hT : T = ([48] ++ nameL f) ++ t) (hrow : rowB T = true) :
    nameP (putF T ++ r) ⟨0, 0, []⟩ = ⟨stP ([48] ++ nameL f), f.id.toNat, f.lo, f.re⟩ := by
  obtain ⟨e1, e2, -⟩ := frE_ok hE
  unfold nameL at hT ⊢
  cases hlo : f.lo
  · rw [hlo] at hT e2
    have hid : f.id.toNat < 2 ^ 11 := by simp [topI] at e2; omega
    simp only [Bool.false_eq_true, if_false] at hT ⊢
    rw [name_short T r t f.id.toNat f.re hid (by rw [hT]; simp) hrow]
    simp
  · rw [hlo] at hT e2
    have hid : f.id.toNat < 2 ^ 29 := by simp [topI] at e2; omega
    simp only [if_true] at hT ⊢
    have hv := val_row f.id.toNat 29 hid
    have hd : ((bitsHead f.id.toNat 29 29).drop 11).length = 18 := by simp [bitsHead_length]
    rw [← List.take_append_drop 11 (bitsHead f.id.toNat 29 29), val_append, hd] at hv
    rw [name_long T r t ((bitsHead f.id.toNat 29 29).take 11) ((bitsHead f.id.toNat 29 29).drop 11) f.id.toNat f.re (by simp [bitsHead_length]) hd hv (by rw [hT]; simp) hrow]
    simp
theorem form_back (f : Fr) (T r p t : List UInt8) (hE : frE f = 0) (hT : T = p ++ (midL f ++ t)) (hrow : rowB T = true) :
    formP (putF T ++ r) (stP p) f.lo f.re = (stP (p ++ midL f), f.fa) := by
  obtain ⟨-, -, e3, -⟩ := frE_ok hE
  unfold formP
  unfold midL at hT ⊢
  cases hfa : f.fa
  · rw [hfa] at hT
    cases hlo : f.lo
    · rw [hlo] at hT
      simp only [Bool.false_eq_true, if_false] at hT ⊢
      rw [takeP_put T r p [48] t 1 hT hrow rfl, if_neg (by simp)]
    · rw [hlo] at hT
      simp only [Bool.false_eq_true, if_false, if_true] at hT ⊢
      rw [takeP_put T r p [48] ([48] ++ t) 1 (by rw [hT]; simp) hrow rfl, if_neg (by simp)]
      have h2 : wantP (putF T ++ r) (stP (p ++ [48])) [48] = stP (p ++ [48] ++ [48]) := wstep_put T r (p ++ [48]) t 48 (by rw [hT]; simp) hrow
      simp only [h2]
      simp
  · rw [hfa] at hT e3
    have hre : f.re = false := by
      cases h : f.re
      · rfl
      · exact absurd (e3 h).1 (by decide)
    simp only [if_true] at hT ⊢
    rw [takeP_put T r p [49] ([48, 49, 48] ++ t) 1 (by rw [hT]; simp) hrow rfl, if_pos rfl, hre]
    have h2 : wantP (putF T ++ r) (stP (p ++ [49])) [48, 49, 48] = stP (p ++ [49] ++ [48] ++ [49] ++ [48]) := by
      show wstep _ (wstep _ (wstep _ _ 48) 49) 48 = _
      rw [wstep_put T r (p ++ [49]) ([49, 48] ++ t) 48 (by rw [hT]; simp) hrow, wstep_put T r (p ++ [49] ++ [48]) ([48] ++ t) 49 (by rw [hT]; simp) hrow, wstep_put T r (p ++ [49] ++ [48] ++ [49]) t 48 (by rw [hT]; simp) hrow]
    simp only [h2]
    simp
theorem data_back (f : Fr) (T r p t : List UInt8) (hE : frE f = 0) (hT : T = p ++ (bitsHead (codeN f) 4 4 ++ (ofL f.dt ++ t))) (hrow : rowB T = true) :
    dataP (putF T ++ r) (stP p) f.fa f.re = ⟨stP (p ++ bitsHead (codeN f) 4 4 ++ ofL f.dt), f.sz.toNat, f.dt⟩ := by
  obtain ⟨-, -, e3, e4, e5, e6, e7, e8, e9⟩ := frE_ok hE
  have hsz := sizes_at e9
  have hcode : codeN f < 2 ^ 4 := by
    unfold codeN
    split
    · omega
    · exact hsz.2.1
  have hn : numP (putF T ++ r) (stP p) 4 = (codeN f, stP (p ++ bitsHead (codeN f) 4 4)) := by
    rw [numP_put T r p (bitsHead (codeN f) 4 4) _ 4 hT hrow (bitsHead_length _ _ _), val_row _ _ hcode]
  have hd : dtN (putF T ++ r) (stP p) = sizesL.getD (codeN f) 0 := by unfold dtN; rw [hn]
  cases hre : f.re
  · have hc : codeN f = sizesL.idxOf f.dt.length := by unfold codeN; rw [hre]; rfl
    have hdn : dtN (putF T ++ r) (stP p) = f.dt.length := by rw [hd, hc]; exact hsz.1
    have h2 : dt2 (putF T ++ r) (stP p) f.fa = stP (p ++ bitsHead (codeN f) 4 4) := by
      unfold dt2
      rw [hdn, hn, if_neg]
      unfold topD
      cases hfa : f.fa
      · have := e8 hfa; simp; omega
      · simp; omega
    unfold dataP
    rw [h2, hdn, takeP_put T r (p ++ bitsHead (codeN f) 4 4) (ofL f.dt) t (8 * f.dt.length) (by rw [hT]; simp) hrow (ofL_length _), bytesL_ofL, e6 hre]
    rfl
  · have hc : codeN f = f.sz.toNat := by unfold codeN; rw [hre]; rfl
    obtain ⟨hfa, hdt⟩ := e3 hre
    have hdn : dtN (putF T ++ r) (stP p) = f.sz.toNat := by rw [hd, hc]; exact sizes_small (by omega)
    have h2 : dt2 (putF T ++ r) (stP p) f.fa = stP (p ++ bitsHead (codeN f) 4 4) := by
      unfold dt2
      rw [hdn, hn, if_neg]
      unfold topD
      rw [hfa]; simp; omega
    have hnil : f.dt = [] := List.eq_nil_of_length_eq_zero hdt
    unfold dataP
    rw [h2, hdn, hnil]
    simp [ofL]
/-- a frame's bits ahead of the last ten -/
def preL (f : Fr) : List UInt8 := if f.fa then putF (headL f) ++ fastL (headL f) (putF (headL f)) f.dt.length else putF (headL f ++ sumL 0 (headL f))
theorem bitsL_pre (f : Fr) : bitsL f = preL f ++ onesL := by unfold bitsL preL; split <;> rfl
theorem end_back (x e rest o : List UInt8) (he : e = onesL ∨ e = heardL) : endP (x ++ (e ++ rest)) ⟨0, x.length, o⟩ = ⟨0, x.length + 10, o⟩ := by
  have hl : e.length = 10 := by rcases he with rfl | rfl <;> rfl
  have h : nextP (x ++ (e ++ rest)) ⟨0, x.length, o⟩ 10 = (e, ⟨0, x.length + 10, o⟩) := by
    unfold nextP
    simp only
    rw [if_pos trivial, if_neg (by simp; omega), List.drop_left, ← hl, List.take_left]
  unfold endP
  rw [h, if_pos he]
theorem read_back (f : Fr) (e rest : List UInt8) (hE : frE f = 0) (he : e = onesL ∨ e = heardL) :
    (rdE (preL f ++ (e ++ rest))).fl = 0 ∧ (rdE (preL f ++ (e ++ rest))).u = (preL f).length + 10 ∧ rdF (preL f ++ (e ++ rest)) = f := by
  obtain ⟨e1, -, -, e4, -⟩ := frE_ok hE
  have hh : headL f = ([48] ++ nameL f) ++ (midL f ++ (bitsHead (codeN f) 4 4 ++ ofL f.dt)) := by unfold headL; simp
  have hp : [48] ++ nameL f ++ midL f ++ bitsHead (codeN f) 4 4 ++ ofL f.dt = headL f := rfl
  cases hfa : f.fa
  · have hb : preL f ++ (e ++ rest) = putF (headL f ++ sumL 0 (headL f)) ++ (e ++ rest) := by unfold preL; rw [hfa]; rfl
    have hrow : rowB (headL f ++ sumL 0 (headL f)) = true := by rw [rowB_append, headL_row, sumL_row]; rfl
    have hpl : preL f = putF (headL f ++ sumL 0 (headL f)) := by unfold preL; rw [hfa]; rfl
    rw [hb]
    have hA : rdA (putF (headL f ++ sumL 0 (headL f)) ++ (e ++ rest)) = ⟨stP ([48] ++ nameL f), f.id.toNat, f.lo, f.re⟩ :=
      name_back f _ _ ((midL f ++ (bitsHead (codeN f) 4 4 ++ ofL f.dt)) ++ sumL 0 (headL f)) hE (by rw [hh]; simp only [List.append_assoc]) hrow
    have hB : rdB (putF (headL f ++ sumL 0 (headL f)) ++ (e ++ rest)) = (stP ([48] ++ nameL f ++ midL f), f.fa) := by
      unfold rdB
      rw [hA]
      exact form_back f _ _ _ ((bitsHead (codeN f) 4 4 ++ ofL f.dt) ++ sumL 0 (headL f)) hE (by rw [hh]; simp only [List.append_assoc]) hrow
    have hD : rdD (putF (headL f ++ sumL 0 (headL f)) ++ (e ++ rest)) = ⟨stP (headL f), f.sz.toNat, f.dt⟩ := by
      unfold rdD
      rw [hA, hB, ← hp]
      exact data_back f _ _ _ (sumL 0 (headL f)) hE (by rw [hh]; simp only [List.append_assoc]) hrow
    have hS : rdS (putF (headL f ++ sumL 0 (headL f)) ++ (e ++ rest)) = stP (headL f ++ sumL 0 (headL f)) := by
      unfold rdS
      rw [hB, hD, hfa]
      simp only [Bool.false_eq_true, if_false]
      unfold sumP
      rw [takeP_put _ _ (headL f) (sumL 0 (headL f)) [] 15 (by simp) hrow (sumL_len _ _)]
      rw [if_pos (show sumL 0 (headL f) = sumL 0 (stP (headL f)).o from rfl)]
    have hEe : rdE (putF (headL f ++ sumL 0 (headL f)) ++ (e ++ rest)) = ⟨0, (preL f).length + 10, headL f ++ sumL 0 (headL f)⟩ := by
      unfold rdE
      rw [hS, hpl]
      exact end_back _ e rest _ he
    refine ⟨by rw [hEe], by rw [hEe], ?_⟩
    unfold rdF
    rw [hA, hB, hD]
    simp only [Int.toNat_of_nonneg e1, Int.toNat_of_nonneg e4]
  · have hpl : preL f = putF (headL f) ++ fastL (headL f) (putF (headL f)) f.dt.length := by unfold preL; rw [hfa]; rfl
    have hb : preL f ++ (e ++ rest) = putF (headL f) ++ (fastL (headL f) (putF (headL f)) f.dt.length ++ (e ++ rest)) := by rw [hpl, List.append_assoc]
    have hrow : rowB (headL f) = true := headL_row f
    have hb0 := hb
    rw [hb]
    generalize hrr : fastL (headL f) (putF (headL f)) f.dt.length ++ (e ++ rest) = rr at *
    have hA : rdA (putF (headL f) ++ rr) = ⟨stP ([48] ++ nameL f), f.id.toNat, f.lo, f.re⟩ :=
      name_back f _ _ (midL f ++ (bitsHead (codeN f) 4 4 ++ ofL f.dt)) hE hh hrow
    have hB : rdB (putF (headL f) ++ rr) = (stP ([48] ++ nameL f ++ midL f), f.fa) := by
      unfold rdB
      rw [hA]
      exact form_back f _ _ _ (bitsHead (codeN f) 4 4 ++ ofL f.dt) hE (by rw [hh]) hrow
    have hD : rdD (putF (headL f) ++ rr) = ⟨stP (headL f), f.sz.toNat, f.dt⟩ := by
      unfold rdD
      rw [hA, hB, ← hp]
      exact data_back f _ _ _ [] hE (by simp only [List.append_assoc, List.append_nil]) hrow
    have htk : (putF (headL f) ++ rr).take (putF (headL f)).length = putF (headL f) := List.take_left
    have hnx : nextP (putF (headL f) ++ rr) (stP (headL f)) (fastL (headL f) (putF (headL f)) f.dt.length).length = (fastL (headL f) (putF (headL f)) f.dt.length, ⟨0, (preL f).length, headL f⟩) := by
      unfold nextP stP
      simp only
      rw [if_pos trivial, if_neg (by rw [← hrr]; simp), List.drop_left, ← hrr, List.take_left, hpl, List.length_append]
    have hS : rdS (putF (headL f) ++ rr) = ⟨0, (preL f).length, headL f⟩ := by
      unfold rdS
      rw [hB, hD, hfa]
      simp only [if_true]
      unfold fixedP
      rw [if_pos (show (stP (headL f)).fl = 0 from rfl), show (stP (headL f)).u = (putF (headL f)).length from rfl, show (stP (headL f)).o = headL f from rfl, htk, hnx]
      simp only
      rw [if_pos, if_pos trivial]
      show _ = fixL (unfixL (fixL _ _) 0) _
      rw [unfix_fixL]
      rfl
    have hEe : rdE (putF (headL f) ++ rr) = ⟨0, (preL f).length + 10, headL f⟩ := by
      unfold rdE
      rw [hS, ← hb0]
      exact end_back _ e rest _ he
    refine ⟨by rw [hEe], by rw [hEe], ?_⟩
    unfold rdF
    rw [hA, hB, hD]
    simp only [Int.toNat_of_nonneg e1, Int.toNat_of_nonneg e4]
end Bw
end Go.Proofs.YtdhmjbnpdmneiacDoor

/- Variables of one cell, and worlds of which only some blocks have turned; none walks a function. -/
namespace Go.Proofs.YtdhmjbnpdmneiacDoor
open Go.ChangeShapes Go.WideShapes Go.ChangeAt Go.RowKit
namespace Bw
/-- a variable of one cell -/
def BoxAt (w : World) (g : Nat) (t : TypeId) (v : Value) : Prop := w.heap[g]? = some (.cells #[v] t (0, 0))
theorem BoxAt.lt {w : World} {g : Nat} {t : TypeId} {v : Value} (h : BoxAt w g t v) : g < w.heap.size := by
  rcases Nat.lt_or_ge g w.heap.size with h' | h'
  · exact h'
  · unfold BoxAt at h; rw [Array.getElem?_eq_none h'] at h; cases h
theorem BoxAt.cell {w : World} {g : Nat} {t : TypeId} {v : Value} (h : BoxAt w g t v) : w.cell? ⟨g, 0, none⟩ = some v := by
  rw [cell_of_row w g 0 _ _ _ h]; rfl
theorem BoxAt.frozen {w : World} {g : Nat} {t : TypeId} {v : Value} (h : BoxAt w g t v) : w.frozen? ⟨g, 0, none⟩ = false := frozen_of_row w g 0 _ _ h
theorem BoxAt.kept {w w' : World} {g : Nat} {t : TypeId} {v : Value} (h : BoxAt w g t v) (hb : Below w.heap.size w w') : BoxAt w' g t v := by
  unfold BoxAt; rw [hb.block g h.lt]; exact h
theorem BoxAt.set {w : World} {g : Nat} {t : TypeId} {v : Value} (h : BoxAt w g t v) (u : Value) : BoxAt (w.setCell ⟨g, 0, none⟩ u) g t u := heap_setCell_same w g 0 _ t u h
theorem BoxAt.other {w : World} {g k : Nat} {t : TypeId} {v : Value} (h : BoxAt w g t v) (u : Value) (hk : g ≠ k) : BoxAt (w.setCell ⟨k, 0, none⟩ u) g t v := by
  unfold BoxAt; rw [Below.heap_setCell _ _ _ _ hk]; exact h
/-- of what was there only these blocks have turned -/
structure Tch (gs : List Nat) (w w' : World) : Prop where
  os : w'.os = w.os
  tape : w'.tape = w.tape
  output : w'.output = w.output
  size : w.heap.size ≤ w'.heap.size
  block : ∀ k, k < w.heap.size → k ∉ gs → w'.heap[k]? = w.heap[k]?
theorem Tch.refl (gs : List Nat) (w : World) : Tch gs w w := ⟨rfl, rfl, rfl, Nat.le_refl _, fun _ _ _ => rfl⟩
theorem Tch.of {gs : List Nat} {w w' : World} (h : Below w.heap.size w w') : Tch gs w w' := ⟨h.os, h.tape, h.output, h.size, fun k hk _ => h.block k hk⟩
theorem Tch.trans {gs : List Nat} {w a b : World} (h1 : Tch gs w a) (h2 : Tch gs a b) : Tch gs w b :=
  ⟨h2.os.trans h1.os, h2.tape.trans h1.tape, h2.output.trans h1.output, Nat.le_trans h1.size h2.size, fun k hk hg => (h2.block k (Nat.lt_of_lt_of_le hk h1.size) hg).trans (h1.block k hk hg)⟩
theorem Tch.set {gs : List Nat} {w a : World} (h : Tch gs w a) {g : Nat} (hg : g ∈ gs) (u : Value) : Tch gs w (a.setCell ⟨g, 0, none⟩ u) :=
  h.trans ⟨rfl, rfl, rfl, by simp [World.setCell], fun k _ hk => Below.heap_setCell _ _ _ _ (fun e => hk (e ▸ hg))⟩
theorem Tch.setK {gs : List Nat} {w a : World} (h : Tch gs w a) {g : Nat} (hg : g ∈ gs) (k : Nat) (u : Value) : Tch gs w (a.setCell ⟨g, k, none⟩ u) :=
  h.trans ⟨rfl, rfl, rfl, by simp [World.setCell], fun q _ hq => Below.heap_setCell _ _ _ _ (fun e => hq (e ▸ hg))⟩
theorem Tch.below {gs : List Nat} {w a b : World} {B : Nat} (h : Below B w a) (ht : Tch gs a b) (hg : ∀ g ∈ gs, B ≤ g) (hB : B ≤ w.heap.size) : Below B w b :=
  ⟨ht.os.trans h.os, ht.tape.trans h.tape, ht.output.trans h.output, Nat.le_trans h.size ht.size, fun k hk => (ht.block k (by have := h.size; omega) (fun e => by have := hg k e; omega)).trans (h.block k hk)⟩
theorem Tch.box {gs : List Nat} {w w' : World} (ht : Tch gs w w') {g : Nat} {t : TypeId} {v : Value} (h : BoxAt w g t v) (hg : g ∉ gs) : BoxAt w' g t v := by
  unfold BoxAt; rw [ht.block g h.lt hg]; exact h

end Bw
end Go.Proofs.YtdhmjbnpdmneiacDoor

/- An answer of three: a row, a number, an error. -/
namespace Go.Proofs.YtdhmjbnpdmneiacDoor
namespace Bw
def takeV (A : List UInt8 × Nat × Int) : Value := .tuple #[.string ⟨A.1.toArray⟩, .int .i64 A.2.1, .int .i64 A.2.2]
end Bw
end Go.Proofs.YtdhmjbnpdmneiacDoor
