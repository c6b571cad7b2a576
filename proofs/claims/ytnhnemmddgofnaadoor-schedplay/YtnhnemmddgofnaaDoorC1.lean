/- Which frames are right: the errors, as data; of no program. -/
import Derived.Test.YtnhnemmddgofnaaDoorChecked
import Derived.WalkKit
import Derived.ProofKit
import Derived.Lib.OthersKept
import Derived.Deep.QuietTactic
import Derived.BigQuiet
namespace Go.Proofs.YtnhnemmddgofnaaDoor
open Go.ChangeShapes Go.WideShapes Go.ChangeAt Go.RowKit
namespace Bw

theorem Hid.mk {p : Prop} (h : p) : Hid p := h

theorem int_eq {k : IntKind} {a b : Int} (h : a = b) : Value.int k a = Value.int k b := by rw [h]

theorem cell_kept {w w' : World} (hb : Below w.heap.size w w') {a : Addr} {v : Value} (hc : w.cell? a = some v) : w'.cell? a = some v := by
  have hlt : a.block < w.heap.size := by
    rcases Nat.lt_or_ge a.block w.heap.size with h | h
    · exact h
    · unfold World.cell? at hc
      rw [Array.getElem?_eq_none h] at hc
      simp at hc
  rw [hb.cell hlt]; exact hc

theorem ownsRow_below {w w' : World} {base : Nat} {e : TypeId} {size : Nat} {v : Value} {n : Nat} {xs : List Value} (h : w.ownsRow base e size v n xs) (hb : Below w.heap.size w w') :
    w'.ownsRow base e size v n xs := by
  obtain ⟨h1, h2⟩ := h
  refine ⟨h1, ?_⟩
  rcases h2 with h2 | ⟨g, cap, cur, hv, hg, hh, hc, hm, hsz, htk⟩
  · exact Or.inl h2
  · have hlt : g < w.heap.size := by
      rcases Nat.lt_or_ge g w.heap.size with h | h
      · exact h
      · rw [Array.getElem?_eq_none h] at hh; cases hh
    exact Or.inr ⟨g, cap, cur, hv, hg, by rw [hb.block g hlt]; exact hh, hc, hm, hsz, htk⟩

theorem bl2 {w a b : World} (h1 : Below w.heap.size w a) (h2 : Below a.heap.size a b) : Below w.heap.size w b := h1.trans (h2.mono h1.size)

theorem ret_bool {b : Bool} (h : b = true) : Ending.returned (.bool b) = .returned (.bool true) := by rw [h]

theorem max_int (a b : Nat) (x : Int) (h : x = (b : Int)) : (if (a : Int) < x then x else (a : Int)) = ((max a b : Nat) : Int) := by
  subst h
  split <;> omega

end Bw
end Go.Proofs.YtnhnemmddgofnaaDoor
namespace Go.Proofs.YtnhnemmddgofnaaDoor.Bm

def bit (c : UInt8) : Bool := c == 48 || c == 49
def rowB (l : List UInt8) : Bool := l.all bit
def checkE (l : List UInt8) : Int := if 1000 < l.length then 2 else if rowB l then 0 else 4
def dig (c : UInt8) : Nat := c.toNat - 48
def val (l : List UInt8) : Nat := l.foldl (fun n c => 2 * n + dig c) 0

theorem bit_iff (c : UInt8) : bit c = true ↔ (c.toNat : Int) = 48 ∨ (c.toNat : Int) = 49 := by
  unfold bit
  have e1 : (c == 48) = decide ((c.toNat : Int) = 48) := by
    rw [Bool.eq_iff_iff]; simp [← UInt8.toNat_inj]; omega
  have e2 : (c == 49) = decide ((c.toNat : Int) = 49) := by
    rw [Bool.eq_iff_iff]; simp [← UInt8.toNat_inj]; omega
  rw [e1, e2]; simp

theorem bit_dig {c : UInt8} (h : bit c = true) : dig c ≤ 1 ∧ (dig c : Int) = (c.toNat : Int) - 48 := by
  rcases (bit_iff c).1 h with h | h <;> unfold dig <;> omega

theorem take_snoc (s : ByteArray) (k : Nat) (h : k < s.size) : s.data.toList.take (k + 1) = s.data.toList.take k ++ [s[k]] := by
  rw [List.take_succ_eq_append_getElem (by simpa using h)]; rfl

theorem rowB_append (a b : List UInt8) : rowB (a ++ b) = (rowB a && rowB b) := by simp [rowB]
theorem rowB_snoc (a : List UInt8) (c : UInt8) : rowB (a ++ [c]) = (rowB a && bit c) := by simp [rowB]
theorem rowB_take {l : List UInt8} (h : rowB l = true) (k : Nat) : rowB (l.take k) = true := by
  have e : rowB (l.take k ++ l.drop k) = true := by rw [List.take_append_drop]; exact h
  rw [rowB_append] at e; simp at e; exact e.1
theorem rowB_at {s : ByteArray} (h : rowB s.data.toList = true) (k : Nat) (hk : k < s.size) : bit s[k] = true := by
  unfold rowB at h
  rw [List.all_eq_true] at h
  exact h _ (by show s.data[k] ∈ _; simp)
theorem rowB_not {s : ByteArray} (k : Nat) (hk : k < s.size) (h : bit s[k] = false) : rowB s.data.toList = false := by
  cases e : rowB s.data.toList with
  | false => rfl
  | true => rw [rowB_at e k hk] at h; cases h

theorem val_nil : val [] = 0 := rfl
theorem val_snoc (a : List UInt8) (c : UInt8) : val (a ++ [c]) = 2 * val a + dig c := by simp [val]
theorem foldl_val (b : List UInt8) : ∀ n, b.foldl (fun n c => 2 * n + dig c) n = n * 2 ^ b.length + val b := by
  induction b with
  | nil => intro n; simp [val]
  | cons c b ih =>
    intro n
    have e : val (c :: b) = dig c * 2 ^ b.length + val b := by
      show b.foldl _ (2 * 0 + dig c) = _
      rw [ih]; simp
    rw [e, List.foldl_cons, ih, List.length_cons, Nat.pow_succ, Nat.add_mul]
    have : 2 * n * 2 ^ b.length = n * (2 ^ b.length * 2) := by
      rw [Nat.mul_comm 2 n, Nat.mul_assoc, Nat.mul_comm 2]
    omega
theorem val_append (a b : List UInt8) : val (a ++ b) = val a * 2 ^ b.length + val b := by
  unfold val
  rw [List.foldl_append, foldl_val]; rfl
theorem val_cons (c : UInt8) (b : List UInt8) : val (c :: b) = dig c * 2 ^ b.length + val b := by
  show b.foldl _ (2 * 0 + dig c) = _
  rw [foldl_val]; simp
theorem val_lt (l : List UInt8) (h : rowB l = true) : val l < 2 ^ l.length := by
  induction l with
  | nil => simp [val]
  | cons c b ih =>
    have h' : bit c = true ∧ rowB b = true := by simpa [rowB] using h
    have h1 := ih h'.2
    have h2 := (bit_dig h'.1).1
    rw [val_cons, List.length_cons, Nat.pow_succ]
    have : dig c * 2 ^ b.length ≤ 1 * 2 ^ b.length := Nat.mul_le_mul_right _ h2
    omega

end Go.Proofs.YtnhnemmddgofnaaDoor.Bm
namespace Go.Proofs.YtnhnemmddgofnaaDoor
open Go.ChangeShapes Go.WideShapes Go.ChangeAt Go.RowKit
namespace Bw
open Bm
theorem info_u8 : (Tryd.prog.info? 5).map (fun i => (i.zero, i.size, i.bytes)) = some (some (.int .u8 0), 1, 1) := by kernel_rfl

/-- the bits of n, from the place size - 1 - k on down to size - 1 - (k + m - 1), as bytes 48 and 49 -/
def bitAt (n : Nat) (j : Nat) : UInt8 := if n / 2 ^ j % 2 = 1 then 49 else 48

def bitsHead (n size k : Nat) : List UInt8 := (List.range k).map fun i => bitAt n (size - 1 - i)

def cellsOf (l : List UInt8) : List Value := l.map fun c => Value.int .u8 c.toNat

theorem bitsHead_succ (n size k : Nat) : bitsHead n size (k + 1) = bitsHead n size k ++ [bitAt n (size - 1 - k)] := by
  simp [bitsHead, List.range_succ]

theorem cellsOf_append (a b : List UInt8) : cellsOf (a ++ b) = cellsOf a ++ cellsOf b := by simp [cellsOf]

theorem cellsOf_length (a : List UInt8) : (cellsOf a).length = a.length := by simp [cellsOf]

theorem bitsHead_length (n size k : Nat) : (bitsHead n size k).length = k := by simp [bitsHead]

theorem and_one (x : Int) (h0 : 0 ≤ x) (h1 : x < 2 ^ 63) : bits .and .i64 x 1 = x % 2 := by
  have := bits_mask .i64 63 (by decide) (fun n h0 h1 => by rw [IntKind.wrap_i64]; omega) 1 (by decide) x h0 h1
  simpa using this

theorem bit_cell (n q : Nat) (hn : n < 2 ^ 63) : Value.int .u8 ((48 + bits .and .i64 ((n : Int) / 2 ^ q) 1) % 256) = Value.int .u8 (bitAt n q).toNat := by
  have e : (n : Int) / 2 ^ q = ((n / 2 ^ q : Nat) : Int) := by simp
  have hle : n / 2 ^ q ≤ n := Nat.div_le_self _ _
  rw [e]
  unfold bitAt
  generalize n / 2 ^ q = m at hle
  rw [and_one _ (by omega) (by omega)]
  by_cases h : m % 2 = 1
  · rw [if_pos h]; congr 1; simp; omega
  · rw [if_neg h]; congr 1; simp; omega

theorem convert_own {w : World} {base : Nat} {v : Value} {n : Nat} {l : List UInt8} (h : w.ownsRow base 5 1 v n (cellsOf l)) :
    (convert 78 9 v).run Tryd.prog w = .ok (.string ⟨l.toArray⟩) w := by
  obtain ⟨hl, h'⟩ := h
  have hn : l.length = n := by simpa [cellsOf] using hl
  rcases h' with ⟨rfl, h0⟩ | ⟨g, cap, cur, rfl, hg, hh, hc, hm, hsz, htk⟩
  · have : l = [] := List.eq_nil_of_length_eq_zero (by omega)
    subst this
    exact run_convert_bytes_nil w 78 5 Tryd.underlying78 Tryd.underlying5 0 0 9 Tryd.underlying9
  · have ho : w.ownsRow base 5 1 (.slice (some ⟨g, 0, none⟩) n cap) n (cellsOf l) := ⟨hl, Or.inr ⟨g, cap, cur, rfl, hg, hh, hc, hm, hsz, htk⟩⟩
    have := run_convert_bytes_back w 78 9 5 ⟨g, 0, none⟩ cap l Tryd.underlying78 Tryd.underlying5 Tryd.underlying9 (fun j hj => ho.cells rfl j _ (by simp [cellsOf, hj]))
    rw [hn] at this
    exact this

/-- What is told of a slice of bytes that came in: its elements, and where they lie. -/
def IsBytes (w : World) (a : Option Addr) (len cap : Nat) (l : List UInt8) : Prop :=
  l.length = len ∧ len ≤ cap ∧ cap ≤ maxLen ∧ (a = none → len = 0) ∧ ∀ x, a = some x → ∀ i, i < len → w.cell? (x.add i) = some (.int .u8 (l.getD i 0).toNat)

def ofL (l : List UInt8) : List UInt8 := l.flatMap fun c => bitsHead c.toNat 8 8

theorem ofL_snoc (l : List UInt8) (c : UInt8) : ofL (l ++ [c]) = ofL l ++ bitsHead c.toNat 8 8 := by simp [ofL]

theorem ofL_length (l : List UInt8) : (ofL l).length = 8 * l.length := by
  induction l with
  | nil => rfl
  | cons c l ih =>
    have : ofL (c :: l) = bitsHead c.toNat 8 8 ++ ofL l := rfl
    rw [this, List.length_append, bitsHead_length, ih, List.length_cons]; omega

theorem take_snocL (l : List UInt8) (k : Nat) (h : k < l.length) : l.take (k + 1) = l.take k ++ [l.getD k 0] := by
  rw [List.take_succ_eq_append_getElem h]; simp [List.getD, h]

theorem extract_list (s : ByteArray) (i n : Nat) : (s.extract i (i + n)).data.toList = (s.data.toList.drop i).take n := by
  rw [ByteArray.data_extract, Array.toList_extract, List.extract_eq_take_drop]
  congr 1; omega

theorem rowB_drop {l : List UInt8} (h : rowB l = true) (k : Nat) : rowB (l.drop k) = true := by
  have e : rowB (l.take k ++ l.drop k) = true := by rw [List.take_append_drop]; exact h
  rw [rowB_append] at e; simp at e; exact e.2

theorem small_of_check {s : ByteArray} (h : checkE s.data.toList = 0) : s.size ≤ 1000 ∧ rowB s.data.toList = true := by
  unfold checkE at h
  have e : s.data.toList.length = s.size := by simp
  by_cases h1 : 1000 < s.data.toList.length
  · rw [if_pos h1] at h; omega
  · rw [if_neg h1] at h
    cases e : rowB s.data.toList with
    | true => exact ⟨by omega, rfl⟩
    | false => rw [e] at h; simp at h

theorem checkE_row {l : List UInt8} (h : rowB l = true) (hl : l.length ≤ 1000) : checkE l = 0 := by
  unfold checkE; rw [if_neg (by omega), if_pos h]

theorem rowB_at' {s : ByteArray} (h : rowB s.data.toList = true) (k : Nat) (hk : k < s.size) : (s[k].toNat : Int) = 48 ∨ (s[k].toNat : Int) = 49 := (bit_iff _).1 (rowB_at h k hk)

theorem mk_list (l : List UInt8) : (ByteArray.mk l.toArray).data.toList = l := by simp

theorem mk_size (l : List UInt8) : (ByteArray.mk l.toArray).size = l.length := by show l.toArray.size = _; simp

theorem ba_eq {a : ByteArray} {l : List UInt8} (h : a.data.toList = l) : a = ⟨l.toArray⟩ := by
  cases a with
  | mk d => simp only at h; rw [← h]

theorem ba_size {a : ByteArray} {l : List UInt8} (h : a.data.toList = l) : a.size = l.length := by rw [← h]; simp

theorem ba_cat (a b : ByteArray) : (a ++ b).data.toList = a.data.toList ++ b.data.toList := by simp [ByteArray.data_append]

theorem ret_str2 {a : ByteArray} {l : List UInt8} {x : Value} (h : a.data.toList = l) : Ending.returned (.tuple #[.string a, x]) = .returned (.tuple #[.string ⟨l.toArray⟩, x]) := by rw [ba_eq h]

theorem ret_str1 {a : ByteArray} {l : List UInt8} (h : a.data.toList = l) : Ending.returned (.string a) = .returned (.string ⟨l.toArray⟩) := by rw [ba_eq h]

theorem isBytes_below {w w' : World} {a : Option Addr} {len cap : Nat} {l : List UInt8} (h : IsBytes w a len cap l) (hb : Below w.heap.size w w') : IsBytes w' a len cap l :=
  ⟨h.1, h.2.1, h.2.2.1, h.2.2.2.1, fun x hx i hi => cell_kept hb (h.2.2.2.2 x hx i hi)⟩

theorem at_getD (s : ByteArray) (k : Nat) (h : k < s.size) : s[k] = s.data.toList.getD k 0 := by
  show s.data[k] = _
  have h' : k < s.data.size := h
  simp only [List.getD, Array.getElem?_toList, Array.getElem?_eq_getElem h', Option.getD_some]

end Bw
end Go.Proofs.YtnhnemmddgofnaaDoor
namespace Go.Proofs.YtnhnemmddgofnaaDoor
namespace Cm
theorem top_true : True := trivial
end Cm
namespace Bw
open Bm Cm
def sizesL : List Nat := [0, 1, 2, 3, 4, 5, 6, 7, 8, 12, 16, 20, 24, 32, 48, 64]
def topI (lo : Bool) : Int := if lo then 536870911 else 2047
def frEn (id : Int) (lo fa re : Bool) (sz : Int) (n : Nat) : Int :=
  if id < 0 ∨ topI lo < id then 3
  else if re = true ∧ (fa = true ∨ n ≠ 0) then 4
  else if sz < 0 ∨ 8 < sz ∨ (0 < sz ∧ re = false) then 3
  else if 64 < n ∨ (8 < n ∧ fa = false) then 2
  else if n ∈ sizesL then 0 else 4
end Bw
end Go.Proofs.YtnhnemmddgofnaaDoor
