/- Facts on rows of bytes that a call owns or was handed, and on texts; none walks a function. -/
import Derived.Test.YtgjnfmbmndnihaaBase0
import Derived.Test.YtgjnfmbmndnihaaBitsMath
namespace Go.Proofs.Ytgjnfmbmndnihaa
open Go.ChangeShapes Go.WideShapes Go.ChangeAt Go.RowKit
namespace Bw
open Bm
theorem info_u8 : (Try.prog.info? 5).map (fun i => (i.zero, i.size, i.bytes)) = some (some (.int .u8 0), 1, 1) := by kernel_rfl

/-- the bits of n, from the place size - 1 - k on down to size - 1 - (k + m - 1), as bytes 48 and 49 -/
def bitAt (n : Nat) (j : Nat) : UInt8 := if n / 2 ^ j % 2 = 1 then 49 else 48

def bitsHead (n size k : Nat) : List UInt8 := (List.range k).map fun i => bitAt n (size - 1 - i)

def cellsOf (l : List UInt8) : List Value := l.map fun c => Value.int .u8 c.toNat

theorem bitsHead_succ (n size k : Nat) : bitsHead n size (k + 1) = bitsHead n size k ++ [bitAt n (size - 1 - k)] := by
  simp [bitsHead, List.range_succ]

theorem cellsOf_append (a b : List UInt8) : cellsOf (a ++ b) = cellsOf a ++ cellsOf b := by simp [cellsOf]

theorem cellsOf_length (a : List UInt8) : (cellsOf a).length = a.length := by simp [cellsOf]

theorem bitsHead_length (n size k : Nat) : (bitsHead n size k).length = k := by simp [bitsHead]

theorem and_one (x : Int) (h0 : 0 ≤ x) (h1 : x < 2 ^ 63) : bits .and .i64 x 1 = x % 2 := by
  have := bits_mask .i64 63 (by decide) (fun n h0 h1 => by rw [IntKind.wrap_i64]; omega) 1 (by decide) x h0 h1
  simpa using this

theorem bit_cell (n q : Nat) (hn : n < 2 ^ 63) : Value.int .u8 ((48 + bits .and .i64 ((n : Int) / 2 ^ q) 1) % 256) = Value.int .u8 (bitAt n q).toNat := by
  have e : (n : Int) / 2 ^ q = ((n / 2 ^ q : Nat) : Int) := by simp
  have hle : n / 2 ^ q ≤ n := Nat.div_le_self _ _
  rw [e]
  unfold bitAt
  generalize n / 2 ^ q = m at hle
  rw [and_one _ (by omega) (by omega)]
  by_cases h : m % 2 = 1
  · rw [if_pos h]; congr 1; simp; omega
  · rw [if_neg h]; congr 1; simp; omega

theorem convert_own {w : World} {base : Nat} {v : Value} {n : Nat} {l : List UInt8} (h : w.ownsRow base 5 1 v n (cellsOf l)) :
    (convert 22 9 v).run Try.prog w = .ok (.string ⟨l.toArray⟩) w := by
  obtain ⟨hl, h'⟩ := h
  have hn : l.length = n := by simpa [cellsOf] using hl
  rcases h' with ⟨rfl, h0⟩ | ⟨g, cap, cur, rfl, hg, hh, hc, hm, hsz, htk⟩
  · have : l = [] := List.eq_nil_of_length_eq_zero (by omega)
    subst this
    exact run_convert_bytes_nil w 22 5 Try.underlying22 Try.underlying5 0 0 9 Try.underlying9
  · have ho : w.ownsRow base 5 1 (.slice (some ⟨g, 0, none⟩) n cap) n (cellsOf l) := ⟨hl, Or.inr ⟨g, cap, cur, rfl, hg, hh, hc, hm, hsz, htk⟩⟩
    have := run_convert_bytes_back w 22 9 5 ⟨g, 0, none⟩ cap l Try.underlying22 Try.underlying5 Try.underlying9 (fun j hj => ho.cells rfl j _ (by simp [cellsOf, hj]))
    rw [hn] at this
    exact this

/-- What is told of a slice of bytes that came in: its elements, and where they lie. -/
def IsBytes (w : World) (a : Option Addr) (len cap : Nat) (l : List UInt8) : Prop :=
  l.length = len ∧ len ≤ cap ∧ cap ≤ maxLen ∧ (a = none → len = 0) ∧ ∀ x, a = some x → ∀ i, i < len → w.cell? (x.add i) = some (.int .u8 (l.getD i 0).toNat)

def ofL (l : List UInt8) : List UInt8 := l.flatMap fun c => bitsHead c.toNat 8 8

theorem ofL_snoc (l : List UInt8) (c : UInt8) : ofL (l ++ [c]) = ofL l ++ bitsHead c.toNat 8 8 := by simp [ofL]

theorem ofL_length (l : List UInt8) : (ofL l).length = 8 * l.length := by
  induction l with
  | nil => rfl
  | cons c l ih =>
    have : ofL (c :: l) = bitsHead c.toNat 8 8 ++ ofL l := rfl
    rw [this, List.length_append, bitsHead_length, ih, List.length_cons]; omega

theorem take_snocL (l : List UInt8) (k : Nat) (h : k < l.length) : l.take (k + 1) = l.take k ++ [l.getD k 0] := by
  rw [List.take_succ_eq_append_getElem h]; simp [List.getD, h]

theorem extract_list (s : ByteArray) (i n : Nat) : (s.extract i (i + n)).data.toList = (s.data.toList.drop i).take n := by
  rw [ByteArray.data_extract, Array.toList_extract, List.extract_eq_take_drop]
  congr 1; omega

theorem rowB_drop {l : List UInt8} (h : rowB l = true) (k : Nat) : rowB (l.drop k) = true := by
  have e : rowB (l.take k ++ l.drop k) = true := by rw [List.take_append_drop]; exact h
  rw [rowB_append] at e; simp at e; exact e.2

theorem small_of_check {s : ByteArray} (h : checkE s.data.toList = 0) : s.size ≤ 1000 ∧ rowB s.data.toList = true := by
  unfold checkE at h
  have e : s.data.toList.length = s.size := by simp
  by_cases h1 : 1000 < s.data.toList.length
  · rw [if_pos h1] at h; omega
  · rw [if_neg h1] at h
    cases e : rowB s.data.toList with
    | true => exact ⟨by omega, rfl⟩
    | false => rw [e] at h; simp at h

theorem checkE_row {l : List UInt8} (h : rowB l = true) (hl : l.length ≤ 1000) : checkE l = 0 := by
  unfold checkE; rw [if_neg (by omega), if_pos h]

theorem rowB_at' {s : ByteArray} (h : rowB s.data.toList = true) (k : Nat) (hk : k < s.size) : (s[k].toNat : Int) = 48 ∨ (s[k].toNat : Int) = 49 := (bit_iff _).1 (rowB_at h k hk)

theorem mk_list (l : List UInt8) : (ByteArray.mk l.toArray).data.toList = l := by simp

theorem mk_size (l : List UInt8) : (ByteArray.mk l.toArray).size = l.length := by show l.toArray.size = _; simp

theorem ba_eq {a : ByteArray} {l : List UInt8} (h : a.data.toList = l) : a = ⟨l.toArray⟩ := by
  cases a with
  | mk d => simp only at h; rw [← h]

theorem ba_size {a : ByteArray} {l : List UInt8} (h : a.data.toList = l) : a.size = l.length := by rw [← h]; simp

theorem ba_cat (a b : ByteArray) : (a ++ b).data.toList = a.data.toList ++ b.data.toList := by simp [ByteArray.data_append]

theorem ret_str2 {a : ByteArray} {l : List UInt8} {x : Value} (h : a.data.toList = l) : Ending.returned (.tuple #[.string a, x]) = .returned (.tuple #[.string ⟨l.toArray⟩, x]) := by rw [ba_eq h]

theorem ret_str1 {a : ByteArray} {l : List UInt8} (h : a.data.toList = l) : Ending.returned (.string a) = .returned (.string ⟨l.toArray⟩) := by rw [ba_eq h]

theorem isBytes_below {w w' : World} {a : Option Addr} {len cap : Nat} {l : List UInt8} (h : IsBytes w a len cap l) (hb : Below w.heap.size w w') : IsBytes w' a len cap l :=
  ⟨h.1, h.2.1, h.2.2.1, h.2.2.2.1, fun x hx i hi => cell_kept hb (h.2.2.2.2 x hx i hi)⟩

theorem at_getD (s : ByteArray) (k : Nat) (h : k < s.size) : s[k] = s.data.toList.getD k 0 := by
  show s.data[k] = _
  have h' : k < s.data.size := h
  simp only [List.getD, Array.getElem?_toList, Array.getElem?_eq_getElem h', Option.getD_some]

end Bw
end Go.Proofs.Ytgjnfmbmndnihaa
