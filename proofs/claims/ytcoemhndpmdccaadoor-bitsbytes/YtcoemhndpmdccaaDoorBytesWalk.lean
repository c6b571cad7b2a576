/- The law BitsBytes returns true for all inputs, where the table of math/bits lies as its initialiser lays it. -/
import Derived.Test.YtcoemhndpmdccaaDoorRef3
namespace Go.Proofs.YtcoemhndpmdccaaDoor
open Go.ChangeShapes Go.WideShapes Go.ChangeAt Go.RowKit
namespace Bw
open Bm

theorem list_snoc_ind {p : List UInt8 → Prop} (h0 : p []) (h1 : ∀ l c, p l → p (l ++ [c])) : ∀ l, p l := by
  intro l
  have : ∀ r : List UInt8, p r.reverse := by
    intro r
    induction r with
    | nil => exact h0
    | cons c r ih => rw [List.reverse_cons]; exact h1 _ _ ih
  have := this l.reverse
  rwa [List.reverse_reverse] at this

theorem bitAt_up (v d q : Nat) (hd : d ≤ 1) : bitAt (2 * v + d) (q + 1) = bitAt v q := by
  unfold bitAt
  have e : (2 * v + d) / 2 ^ (q + 1) = v / 2 ^ q := by
    rw [Nat.pow_succ, Nat.mul_comm (2 ^ q) 2, ← Nat.div_div_eq_div_mul]
    congr 1; omega
  rw [e]
theorem bits_val (t : List UInt8) : rowB t = true → bitsHead (val t) t.length t.length = t := by
  refine list_snoc_ind (p := fun t => rowB t = true → bitsHead (val t) t.length t.length = t) (fun _ => rfl) ?_ t
  intro t c ih h
  rw [rowB_snoc] at h
  simp only [Bool.and_eq_true] at h
  have hd := (bit_dig h.2).1
  rw [val_snoc, List.length_append, List.length_singleton, bitsHead_succ]
  have e1 : bitsHead (2 * val t + dig c) (t.length + 1) t.length = bitsHead (val t) t.length t.length := by
    unfold bitsHead
    apply List.map_congr_left
    intro i hi
    have hi' : i < t.length := by simpa using hi
    have : t.length + 1 - 1 - i = (t.length - 1 - i) + 1 := by omega
    rw [this, bitAt_up _ _ _ hd]
  have e2 : bitAt (2 * val t + dig c) (t.length + 1 - 1 - t.length) = c := by
    have : t.length + 1 - 1 - t.length = 0 := by omega
    rw [this]
    unfold bitAt
    rcases (bit_iff c).1 h.2 with hc | hc
    · have : c = 48 := UInt8.toNat_inj.1 (by show c.toNat = 48; omega)
      subst this
      have : dig 48 = 0 := rfl
      rw [this, if_neg (by simp)]
    · have : c = 49 := UInt8.toNat_inj.1 (by show c.toNat = 49; omega)
      subst this
      have : dig 49 = 1 := rfl
      rw [this, if_pos (by simp)]
  rw [e1, e2, ih h.1]

theorem byteAt_bits (l : List UInt8) (i : Nat) (hr : rowB l = true) (h : 8 * i + 8 ≤ l.length) : bitsHead (byteAt l i).toNat 8 8 = (l.drop (8 * i)).take 8 := by
  have hrow : rowB ((l.drop (8 * i)).take 8) = true := rowB_take (rowB_drop hr _) _
  have hlen : ((l.drop (8 * i)).take 8).length = 8 := by rw [List.length_take, List.length_drop]; omega
  have hb := bits_val _ hrow
  have hv := val_lt _ hrow
  rw [hlen] at hb hv
  unfold byteAt
  have e : (UInt8.ofNat (val ((l.drop (8 * i)).take 8))).toNat = val ((l.drop (8 * i)).take 8) := by
    rw [UInt8.toNat_ofNat']; omega
  rw [e, hb]
theorem ofL_map (l : List UInt8) (hr : rowB l = true) : ∀ n, 8 * n ≤ l.length → ofL ((List.range n).map (byteAt l)) = l.take (8 * n)
  | 0, _ => rfl
  | n + 1, h => by
    rw [List.range_succ, List.map_append, List.map_singleton, ofL_snoc, ofL_map l hr n (by omega), byteAt_bits l n hr (by omega), ← List.take_add]
    congr 1
theorem ofL_bytesL (l : List UInt8) (hr : rowB l = true) (n : Nat) (h : l.length = 8 * n) : ofL (bytesL l) = l := by
  unfold bytesL
  rw [h, Nat.mul_div_cancel_left _ (by omega), ofL_map l hr n (by omega), List.take_of_length_le (by omega)]

theorem isBytes_own {w : World} {base : Nat} {v : Value} {n : Nat} {l : List UInt8} (h : w.ownsRow base 5 1 v n (cellsOf l)) :
    ∃ a c, v = .slice a n c ∧ IsBytes w a n c l := by
  have h0 := h
  obtain ⟨hl, h2⟩ := h
  have hn : l.length = n := by simpa [cellsOf] using hl
  rcases h2 with ⟨rfl, h1⟩ | ⟨g, cap, cur, rfl, hg, hh, hc, hm, hsz, htk⟩
  · subst h1; exact ⟨none, 0, rfl, hn, Nat.le_refl _, Nat.zero_le _, (fun _ => rfl), (fun x hx => by cases hx)⟩
  · refine ⟨some ⟨g, 0, none⟩, cap, rfl, hn, hc, hm, (fun h => by cases h), fun x hx i hi => ?_⟩
    cases hx
    exact h0.cells rfl i _ (by simp [cellsOf, hn, hi])
theorem isBytes_below {w w' : World} {a : Option Addr} {len cap : Nat} {l : List UInt8} (h : IsBytes w a len cap l) (hb : Below w.heap.size w w') : IsBytes w' a len cap l :=
  ⟨h.1, h.2.1, h.2.2.1, h.2.2.2.1, fun x hx i hi => cell_kept hb (h.2.2.2.2 x hx i hi)⟩

theorem ret_bool {b : Bool} (h : b = true) : Ending.returned (.bool b) = .returned (.bool true) := by rw [h]
/-- Bytes of any text, in one word: the error, and, where there is none, the bytes. -/
def bytesE (l : List UInt8) : Int := if checkE l = 0 then (if l.length % 8 = 0 then 0 else 4) else checkE l
theorem bytes_all (s : ByteArray) (w : World) (hs : s.size ≤ maxLen) :
    Calls Tryd.prog 16 #[.string s] w fun e w' => ∃ a n c l, e = .returned (.tuple #[.slice a n c, .int .i64 (bytesE s.data.toList)]) ∧ n ≤ 125 ∧ IsBytes w' a n c l ∧
      (bytesE s.data.toList ≠ 0 → n = 0) ∧ (bytesE s.data.toList = 0 → ofL l = s.data.toList) ∧ Below w.heap.size w w' := by
  have hl : s.data.toList.length = s.size := by simp
  unfold bytesE
  rw [hl]
  by_cases hc : checkE s.data.toList = 0
  · rw [if_pos hc]
    obtain ⟨h1000, hrow⟩ := small_of_check hc
    by_cases h8 : s.size % 8 = 0
    · rw [if_pos h8]
      have hq : s.size = 8 * (s.size / 8) := by omega
      refine (bytes_ok s w hc (s.size / 8) hq).mono fun e w' ⟨v, he, hown, hb⟩ => ?_
      obtain ⟨a, c, rfl, hi⟩ := isBytes_own hown
      exact ⟨a, _, c, _, he, by omega, hi, fun h => absurd rfl h, fun _ => ofL_bytesL _ hrow (s.size / 8) (by omega), hb⟩
    · rw [if_neg h8]
      exact (bytes_form s w hc h8).mono fun e w' ⟨he, hb⟩ => ⟨none, 0, 0, [], he, by omega, ⟨rfl, Nat.le_refl _, Nat.zero_le _, (fun _ => rfl), (fun x hx => by cases hx)⟩, fun _ => rfl, fun h => absurd h (by omega), hb⟩
  · rw [if_neg hc]
    exact (bytes_bad s w hs hc).mono fun e w' ⟨he, hb⟩ => ⟨none, 0, 0, [], he, by omega, ⟨rfl, Nat.le_refl _, Nat.zero_le _, (fun _ => rfl), (fun x hx => by cases hx)⟩, fun _ => rfl, fun h => absurd h hc, hb⟩

set_option maxHeartbeats 4000000 in
theorem bytesLaw (a : Option Addr) (len cap : Nat) (l : List UInt8) (b : ByteArray) (w : World) (hr : IsBytes w a len cap l) (hb : b.size ≤ maxLen) (h : w.cell? ⟨5, 1, none⟩ = some (.int .u8 1)) :
    Calls Tryd.prog 4 #[.slice a len cap, .string b] w fun e w' => e = .returned (.bool true) ∧ Below w.heap.size w w' := by
  have HR := Hid.mk hr
  have HB := Hid.mk hb
  have H := Hid.mk h
  have hlm : len ≤ 9223372036854775807 := by have := Nat.le_trans hr.2.1 hr.2.2.1; unfold maxLen at this; exact this
  have hbm : b.size ≤ 9223372036854775807 := by unfold maxLen at hb; exact hb
  clear hr hb h
  go_enter Tryd.func4, Tryd.ntmps4
  go_wp2_with fail
  by_cases h125 : 125 < len
  focus
    refine (of_many a len cap w h125 (Nat.le_trans HR.out.2.1 HR.out.2.2.1)).mono ?_
    rintro e w1 ⟨rfl, hw⟩
    have hb1 : Below w.heap.size w w1 := hw ▸ Below.refl _ _
    clear hw
    go_wp2_with fail
    refine (bytes_all b w1 HB.out).mono ?_
    rintro e w2 ⟨a', n', c', l', rfl, hn', hi', hz', hof', hb2⟩
    have HI := Hid.mk hi'
    have HZ := Hid.mk hz'
    have HO := Hid.mk hof'
    have hbel2 := bl2 hb1 hb2
    clear hi' hz' hof' hb1 hb2
    go_wp2_with fail
    refine (rowed_any w2).mono ?_
    rintro e w3 ⟨rfl, hb3⟩
    have HI3 := Hid.mk (isBytes_below HI.out hb3)
    have hbel3 := bl2 hbel2 hb3
    clear hb3 hbel2 HI
    go_wp2_with fail
  rotate_left
  focus
    refine (of_any a len cap l w (by omega) HR.out).mono ?_
    rintro e w1 ⟨rfl, hb1⟩
    have hsz := mk_size (ofL l)
    generalize hsb : ByteArray.mk (ofL l).toArray = sb at *
    have HSB := Hid.mk hsb
    clear hsb hsz
    go_wp2_with fail
    refine (bytes_all b w1 HB.out).mono ?_
    rintro e w2 ⟨a', n', c', l', rfl, hn', hi', hz', hof', hb2⟩
    have HI := Hid.mk hi'
    have HZ := Hid.mk hz'
    have HO := Hid.mk hof'
    have hbel2 := bl2 hb1 hb2
    clear hi' hz' hof' hb1 hb2
    go_wp2_with fail
    refine (rowed_any w2).mono ?_
    rintro e w3 ⟨rfl, hb3⟩
    have HI3 := Hid.mk (isBytes_below HI.out hb3)
    have hbel3 := bl2 hbel2 hb3
    clear hb3 hbel2 HI
    go_wp2_with fail
    refine (ofBytes_any a len cap l w3 (cell_kept hbel3 H.out) (by omega) (isBytes_below HR.out hbel3)).mono ?_
    rw [HSB.out]
    rintro e w3' ⟨rfl, hb3'⟩
    have HI3' := Hid.mk (isBytes_below HI3.out hb3')
    have hbel3' := bl2 hbel3 hb3'
    clear hb3' hbel3 HI3
    have hbel3 := hbel3'
    have HI3 := HI3'
    clear hbel3' HI3'
    clear w3
    go_wp2_with fail
  all_goals
    refine (checkRow_any b _ HB.out).mono ?_
    rintro e w4 ⟨rfl, hw4⟩
    subst hw4
    have hbl : b.data.toList.length = b.size := by simp
    by_cases hc : checkE b.data.toList = 0
    · have h1000 := (small_of_check hc).1
      by_cases h8 : b.size % 8 = 0
      · have hE : bytesE b.data.toList = 0 := by unfold bytesE; rw [if_pos hc, if_pos (by rw [hbl]; exact h8)]
        rw [hE, hc]
        have hof := HO.out hE
        have h8' : (b.size : Int) % 8 = 0 := by omega
        have HOF := Hid.mk hof
        clear hE hof hc hbl h8
        go_wp2_with fail
        refine (ofBytes_any a' n' c' l' _ (cell_kept hbel3 H.out) hn' HI3.out).mono ?_
        have hbb : ByteArray.mk (ofL l').toArray = b := by rw [HOF.out]
        rw [hbb]
        rintro e w5 ⟨rfl, hb5⟩
        clear hbb
        go_wp2_with fail
        go_ret
        exact ⟨rfl, bl2 hbel3 hb5⟩
      · have hE : bytesE b.data.toList = 4 := by unfold bytesE; rw [if_pos hc, if_neg (by rw [hbl]; exact h8)]
        rw [hE, hc]
        have hn0 := HZ.out (by omega)
        subst hn0
        have h8' : (((b.size : Int) % 8) == 0) = false := by simp; omega
        clear hE hc hbl
        go_wp2_with fail
        go_ret
        exact ⟨rfl, hbel3⟩
    · have hE : bytesE b.data.toList = checkE b.data.toList := by unfold bytesE; rw [if_neg hc]
      have hn0 := HZ.out (by omega)
      subst hn0
      rw [hE]
      have hc' : (checkE b.data.toList == 0) = false := by simpa using hc
      clear hE hbl
      go_wp2_with fail
      go_ret
      exact ⟨by first | rfl | exact ret_bool (by simp), hbel3⟩
end Bw
end Go.Proofs.YtcoemhndpmdccaaDoor
