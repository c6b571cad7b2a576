/- What the library's byteReplacer answers, over a table that changes 0 for 1 and 1 for 0, of a row of bits: each bit is the other one. -/
import Derived.Test.YtcoemhndpmdccaaDoorBackMath
import Derived.Lib.ConvBytes
import Derived.Lib.SliceRun
namespace Go.Proofs.YtcoemhndpmdccaaDoor
open Go.ChangeShapes Go.WideShapes Go.ChangeAt Go.RowKit
namespace Bw
open Bm

def TabAt (w : World) (T : Nat) : Prop := w.cell? ⟨T, 48, none⟩ = some (.int .u8 49) ∧ w.cell? ⟨T, 49, none⟩ = some (.int .u8 48)
theorem TabAt.below {w w' : World} {T : Nat} (h : TabAt w T) (hb : Below w.heap.size w w') : TabAt w' T := ⟨cell_kept hb h.1, cell_kept hb h.2⟩

def mixL (l : List UInt8) (k i : Nat) : UInt8 := if i < k then oth (l.getD i 0) else l.getD i 0
def BufAt (wr : World) (g n : Nat) (l : List UInt8) (k : Nat) : Prop := ∀ i, i < n → wr.cell? ⟨g, i, none⟩ = some (.int .u8 (mixL l k i).toNat) ∧ wr.frozen? ⟨g, i, none⟩ = false

theorem bytesWorld_frozen (w : World) (e : TypeId) (s : ByteArray) (j : Nat) (hj : j < s.size) : (Lib.bytesWorld w e s).frozen? ⟨w.heap.size, j, none⟩ = false := by
  have hlt : j < (Lib.bytesCells w e s).size := by
    unfold Lib.bytesCells
    simp
    have : j < s.data.size := hj
    omega
  simp [World.frozen?, Lib.bytesWorld_at_new]
  omega

theorem bytesWorld_below (w : World) (e : TypeId) (s : ByteArray) : Below w.heap.size w (Lib.bytesWorld w e s) :=
  ⟨rfl, rfl, rfl, by rw [Lib.bytesWorld_size]; omega, fun k hk => Lib.bytesWorld_at_old w e s k hk⟩

theorem tab_at {w : World} {T : Nat} {c : UInt8} (h : TabAt w T) (hb : bit c = true) : w.cell? ⟨T, c.toNat, none⟩ = some (.int .u8 (oth c).toNat) := by
  rcases (bit_iff c).1 hb with hc | hc
  · have : c = 48 := UInt8.toNat_inj.1 (by show c.toNat = 48; omega)
    subst this; exact h.1
  · have : c = 49 := UInt8.toNat_inj.1 (by show c.toNat = 49; omega)
    subst this; exact h.2
theorem oth_ne {c : UInt8} (hb : bit c = true) : (((oth c).toNat : Int) == (c.toNat : Int)) = false := by
  rcases (bit_iff c).1 hb with hc | hc
  · have : c = 48 := UInt8.toNat_inj.1 (by show c.toNat = 48; omega)
    subst this; rfl
  · have : c = 49 := UInt8.toNat_inj.1 (by show c.toNat = 49; omega)
    subst this; rfl

theorem nil_eq (W : World) : (binOp .eql 35 (.slice none 0 0) (.slice none 0 0)).run Tryd.prog W = .ok (.bool true) W :=
  Lib.run_eql_slice_nil W 35 5 none 0 0 0 0 Tryd.underlying35
theorem nil_ne (a : Addr) (n c : Nat) (W : World) : (binOp .eql 35 (.slice (some a) n c) (.slice none 0 0)).run Tryd.prog W = .ok (.bool false) W :=
  Lib.run_eql_slice_nil W 35 5 (some a) n c 0 0 Tryd.underlying35

theorem buf_start (w : World) (s : ByteArray) : BufAt (Lib.bytesWorld w 5 s) w.heap.size s.size s.data.toList 0 := fun i hi =>
  ⟨by rw [Lib.bytesWorld_cell w _ s i hi]; rfl, bytesWorld_frozen w _ s i hi⟩
theorem buf_set {W : World} {g n k : Nat} {l : List UInt8} (h : BufAt W g n l k) (hk : k < n) : BufAt (W.setCell ⟨g, k, none⟩ (.int .u8 (oth (l.getD k 0)).toNat)) g n l (k + 1) := by
  intro i hi
  refine ⟨?_, by rw [World.frozen?_setCell]; exact (h i hi).2⟩
  by_cases e : i = k
  · subst e
    rw [World.cell?_setCell_same (h := (h i hi).1)]
    unfold mixL; rw [if_pos (by omega)]
  · rw [World.cell?_setCell_other (h := by intro x; cases x; exact e rfl), (h i hi).1]
    unfold mixL
    by_cases h1 : i < k
    · rw [if_pos h1, if_pos (by omega)]
    · rw [if_neg h1, if_neg (by omega)]

set_option maxHeartbeats 4000000 in
theorem byteRepl (T : Nat) (s : ByteArray) (w : World) (hs : s.size ≤ 1000) (hrow : rowB s.data.toList = true) (hT : TabAt w T) :
    Calls Tryd.prog 140 #[.pointer (some ⟨T, 0, none⟩), .string s] w fun e w' => e = .returned (.string ⟨(s.data.toList.map oth).toArray⟩) ∧ Below w.heap.size w w' := by
  have HR := Hid.mk hrow
  have HT := Hid.mk hT
  clear hrow hT
  go_enter Tryd.func140, Tryd.ntmps140
  go_wp2_with fail
  go_loopw [5, 6] (fun b i wr => ∃ k : Nat, k ≤ s.size ∧ i = .int .i64 k ∧ ((k = 0 ∧ b = .slice none 0 0 ∧ wr = w) ∨ (0 < k ∧ ∃ cap : Nat, b = .slice (some ⟨w.heap.size, 0, none⟩) s.size cap ∧ BufAt wr w.heap.size s.size s.data.toList k ∧ Below w.heap.size w wr))) (fun _ i _ => s.size - (intOf i).toNat)
  case atStart => exact ⟨0, Nat.zero_le _, rfl, Or.inl ⟨rfl, rfl, rfl⟩⟩
  case round =>
    obtain ⟨k, hk, rfl, hcase⟩ := hrel
    by_cases hlt : k < s.size
    · have hlt' : (k : Int) < (s.size : Int) := by omega
      have hbit := rowB_at HR.out k hlt
      have hgd := at_getD s k hlt
      have HGD := Hid.mk hgd
      have htab := tab_at HT.out hbit
      have hneq := oth_ne hbit
      obtain ⟨o, hoE⟩ : ∃ o, o = oth s[k] := ⟨_, rfl⟩
      rw [← hoE] at htab hneq
      have HOE := Hid.mk hoE
      have ho255 : (o.toNat : Int) ≤ 255 := by have := o.toNat_lt; omega
      have hs255 : (s[k].toNat : Int) < 256 := by have := s[k].toNat_lt; omega
      clear hoE hgd hbit
      rcases hcase with ⟨rfl, rfl, rfl⟩ | ⟨hk0, cap, rfl, hbuf, hbel⟩
      · have hconv := Lib.run_convert_string_bytes (P := Tryd.prog) wr 9 35 5 s Tryd.underlying9 Tryd.underlying35 Tryd.underlying5
        have hbw := bytesWorld_below wr 5 s
        have htab2 := cell_kept hbw htab
        have hc0 := Lib.bytesWorld_cell wr 5 s 0 hlt
        have hf0 := bytesWorld_frozen wr 5 s 0 hlt
        have hnil := nil_eq
        have hb1 := buf_set (buf_start wr s) hlt
        rw [← HGD.out, ← HOE.out] at hb1
        have hbl := hbw.setCell (p := ⟨wr.heap.size, 0, none⟩) (Nat.le_refl _) (.int .u8 o.toNat)
        have HB1 := Hid.mk hb1
        have HBL := Hid.mk hbl
        clear hb1 hbl hbw
        set_option maxRecDepth 100000 in
        go_wp2_with fail
        go_roundw
        case rel => exact ⟨1, by omega, by go_num, Or.inr ⟨by omega, _, rfl, HB1.out, HBL.out⟩⟩
        case measure => simp [intOf]; omega
      · have hnil := nil_ne
        have htab2 := cell_kept hbel htab
        obtain ⟨hc0, hf0⟩ := hbuf k hlt
        have hb1 := buf_set hbuf hlt
        rw [← HGD.out, ← HOE.out] at hb1
        have hbl := hbel.setCell (p := ⟨w.heap.size, k, none⟩) (Nat.le_refl _) (.int .u8 o.toNat)
        have HB1 := Hid.mk hb1
        have HBL := Hid.mk hbl
        clear hb1 hbl hbel hbuf
        set_option maxRecDepth 100000 in
        go_wp2_with fail
        go_roundw
        case rel => exact ⟨k + 1, by omega, by go_num, Or.inr ⟨by omega, _, rfl, HB1.out, HBL.out⟩⟩
        case measure => simp [intOf]; omega
    · have e : k = s.size := by omega
      subst e
      rcases hcase with ⟨h0, rfl, rfl⟩ | ⟨hk0, cap, rfl, hbuf, hbel⟩
      · have hnil := nil_eq
        have hse : s = ⟨#[]⟩ := by
          cases s with
          | mk d => have : d.size = 0 := h0; rw [Array.eq_empty_of_size_eq_zero this]
        subst hse
        go_wp2_with fail
        go_ret
        exact ⟨rfl, Below.refl _ _⟩
      · have hnil := nil_ne
        have hl : s.data.toList.length = s.size := by simp
        have hconv := run_convert_bytes_back (P := Tryd.prog) wr 35 9 5 ⟨w.heap.size, 0, none⟩ cap (s.data.toList.map oth) Tryd.underlying35 Tryd.underlying5 Tryd.underlying9 (fun q hq => by
          rw [List.length_map, hl] at hq
          rw [Addr.add_lit, Nat.zero_add, (hbuf q hq).1]
          unfold mixL
          rw [if_pos hq]
          have hq' : q < s.data.toList.length := by omega
          simp only [List.getD, List.getElem?_eq_getElem hq', Option.getD_some, List.getElem_map])
        rw [List.length_map, hl] at hconv
        have hne : ((s.size : Int) == 0) = false := by rw [beq_eq_false_iff_ne]; omega
        clear hbuf hl
        go_wp2_with fail
        go_ret
        exact ⟨rfl, hbel⟩
end Bw
end Go.Proofs.YtcoemhndpmdccaaDoor
