/- Joined out of our texts: BigLsh, BigLow, BigXor, BigBit, SumMath, BigInt64, RefSum. -/
import Derived.Test.YtjeogdfejnoanacGreatDoorLawFrameBitsRI
import Derived.Test.YtjeogdfejnoanacGreatDoorCrcReg
import Derived.Test.YtjeogdfejnoanacGreatDoorLawFrameBitsRH
import Derived.Test.YtjeogdfejnoanacGreatDoorKindMath
import Derived.Test.YtjeogdfejnoanacGreatDoorLawFrameBitsRD
/- What omnibusbig's Lsh answers of numbers from 0 on. -/
namespace Go.Proofs.YtjeogdfejnoanacGreatDoor
open Go.ChangeShapes Go.WideShapes Go.ChangeAt Go.RowKit
namespace Ww
open Wm Bm

theorem isStruct.below {w w' : World} {g : Nat} (h : isStruct w g) (hb : Below w.heap.size w w') : isStruct w' g := by
  obtain ⟨b, s, l, c, hh⟩ := h
  have hlt : g < w.heap.size := by
    rcases Nat.lt_or_ge g w.heap.size with h' | h'
    · exact h'
    · rw [Array.getElem?_eq_none h'] at hh; cases hh
  exact ⟨b, s, l, c, by rw [hb.block g hlt]; exact hh⟩

set_option maxHeartbeats 4000000 in
theorem lsh_any (gz gx nx n : Nat) (w : World) (h : IsInt w gx nx) (hz : isStruct w gz) (hnx : nx < 2 ^ 5000) (hn : n ≤ 5000) :
    Calls Tryz.prog 67 #[.pointer (some ⟨gz, 0, none⟩), .pointer (some ⟨gx, 0, none⟩), .int .u64 n] w fun e w' => e = .returned (.pointer (some ⟨gz, 0, none⟩)) ∧ IsInt w' gz (nx * 2 ^ n) ∧ Touch gz w w' := by
  obtain ⟨va, xs, hh, hW, ht, hv⟩ := h
  have hxl : xs.length ≤ 157 := len_of_val ht hv 5000 hnx 157 (by omega)
  have HW := Hid.mk hW
  have HZ := Hid.mk hz
  obtain ⟨a, ca, rfl, hr⟩ := hW
  have hc0 := cell_of_row w gx 0 _ _ _ hh
  have hc1 := cell_of_row w gx 1 _ _ _ hh
  simp only [List.getElem?_toArray, List.getElem?_cons_zero, List.getElem?_cons_succ] at hc0 hc1
  have HV := Hid.mk hv
  have HWD : Hid (IsW w.drew (.slice a xs.length ca) xs) := HW.out
  have HZD : Hid (isStruct w.drew gz) := HZ.out
  have HC0 : Hid (w.drew.cell? ⟨gx, 0, none⟩ = some (.bool false)) := hc0
  clear hnx hr hh ht hv hz
  go_enter Tryz.func67, Tryz.ntmps67
  go_wp2_with fail
  set_option maxRecDepth 100000 in
  go_region_with (first
    | (go_at_call 96; refine (left_any _ xs n w.drew HWD.out (by omega) (by omega)).mono ?_; rintro e w1 ⟨v1, rs, rfl, hW1, hv1, ht1, hl1, hb1⟩
       have hc01 := Bw.cell_kept hb1 HC0.out
       have hgv := give_any gz v1 rs w1 (isStruct.below HZD.out hb1) hW1 ht1
       have htt : Touch gz w w1 := ⟨hb1.os, hb1.tape, hb1.output, hb1.size, fun k hk _ => hb1.block k hk⟩
       have HT1 := Hid.mk htt
       have HG := Hid.mk hgv
       have HV1 := Hid.mk hv1
       clear hW1 hv1 ht1 hl1 hgv htt hb1)
    | (go_at_call 95; refine HG.out.mono ?_; rintro e w2 ⟨rfl, hI2, ht2⟩))
  all_goals focus
    have HI2 := Hid.mk hI2
    clear hI2
    go_wp2_with fail
    go_ret
    exact ⟨rfl, by rw [← HV.out, ← HV1.out]; exact HI2.out, HT1.out.trans ht2⟩

end Ww
end Go.Proofs.YtjeogdfejnoanacGreatDoor

/- What omnibusbig's low and of answer of numbers from 0 on. -/
namespace Go.Proofs.YtjeogdfejnoanacGreatDoor
open Go.ChangeShapes Go.WideShapes Go.ChangeAt Go.RowKit
namespace Ww
open Wm Bm

theorem owns_of_heap {w : World} {base g m : Nat} {zs : List Nat} (hh : w.heap[g]? = some (.cells (cellsW zs).toArray 124 (0, 0))) (hl : zs.length = m) (hb : base ≤ g) (hm : m ≤ maxLen) :
    w.ownsRow base 124 1 (.slice (some ⟨g, 0, none⟩) m m) m (cellsW zs) := by
  have hc : (cellsW zs).length = m := by rw [cellsW, List.length_map, hl]
  exact ⟨by rw [hc, Nat.mul_one], Or.inr ⟨g, m, (cellsW zs).toArray, rfl, hb, hh, Nat.le_refl _, hm, by rw [List.size_toArray, hc, Nat.mul_one], by rw [Nat.mul_one]; show (cellsW zs).take m = cellsW zs; exact List.take_of_length_le (by omega)⟩⟩
theorem splice_low (xs : List Nat) (m : Nat) : splice (List.replicate m (Value.int .u32 0)) 0 (cellsW xs) = cellsW (xs ++ List.replicate (m - xs.length) 0) := by
  simp [splice, cellsW, List.drop_replicate]

theorem heap_of_made {w : World} {base g m : Nat} (h : w.ownsRow base 124 1 (.slice (some ⟨g, 0, none⟩) m m) m (madeCells (Value.int .u32 0).cells (m * 1)).toList) :
    w.heap[g]? = some (.cells (List.replicate m (Value.int .u32 0)).toArray 124 (0, 0)) := by
  rw [Nat.mul_one, show (Value.int .u32 0).cells = #[Value.int .u32 0] from rfl, toList_madeCells_one] at h
  obtain ⟨hl, h'⟩ := h
  rcases h' with ⟨h0, _⟩ | ⟨g', cap, cur, hv, hb, hh, h1, h2, h3, h4⟩
  · cases h0
  · cases hv
    rw [hh]
    rw [Nat.mul_one] at h3 h4
    have e : cur.toList = List.replicate m (Value.int .u32 0) := by
      rw [← h4]; exact (List.take_of_length_le (by simp; omega)).symm
    rw [← e]
theorem copy_len {X : List Value} {nA m : Nat} (h : X.length = nA) (hm : nA ≤ m) : X.length = Nat.min nA m := by rw [h]; exact (Nat.min_eq_left hm).symm
theorem copy_fit {X : List Value} {nA m : Nat} (h : X.length = nA) (hm : nA ≤ m) : 0 + X.length ≤ (List.replicate m (Value.int .u32 0)).length := by rw [List.length_replicate]; omega
theorem copy_src {X : List Value} {nA : Nat} {xs : List Nat} {a : Option Addr} {W : World} (hna : a = none → xs.length = 0) (hl : nA = xs.length) (hX : X.length = nA) (h0 : 0 < X.length)
    (hc : ∀ ad, a = some ad → ∀ j v, X[j]? = some v → W.cell? (ad.add j) = some v) : ∃ ad, a = some ad ∧ ∀ j v, X[j]? = some v → W.cell? (ad.add j) = some v := by
  cases a with
  | none => have := hna rfl; omega
  | some ad => exact ⟨ad, rfl, hc ad rfl⟩

set_option maxHeartbeats 4000000 in
theorem low_any (g m : Nat) (va : Value) (xs : List Nat) (w : World) (hh : w.heap[g]? = some (.cells #[.bool false, va] 94 (0, 0))) (hW : IsW w va xs) (hm : xs.length ≤ m) (hm2 : m ≤ 10000) :
    Calls Tryz.prog 98 #[.pointer (some ⟨g, 0, none⟩), .int .i64 m] w fun e w' => e = .returned (.slice (some ⟨w.heap.size, 0, none⟩) m m) ∧
      w'.ownsRow w.heap.size 124 1 (.slice (some ⟨w.heap.size, 0, none⟩) m m) m (cellsW (xs ++ List.replicate (m - xs.length) 0)) ∧ Below w.heap.size w w' := by
  obtain ⟨i0, hi, hz0, hz1, hz2⟩ := info_parts info_u32
  obtain ⟨a, ca, rfl, hca, hma, hna, hcea, hoa⟩ := hW
  have hc0 := cell_of_row w g 0 _ _ _ hh
  have hc1 := cell_of_row w g 1 _ _ _ hh
  simp only [List.getElem?_toArray, List.getElem?_cons_zero, List.getElem?_cons_succ] at hc0 hc1
  have HCE := Hid.mk hcea
  have HNA := Hid.mk hna
  have HC0 := Hid.mk hc0
  obtain ⟨nA, hnA⟩ : ∃ n, n = xs.length := ⟨_, rfl⟩
  obtain ⟨X, hX⟩ : ∃ X, X = cellsW xs := ⟨_, rfl⟩
  have hXl : X.length = nA := by rw [hX, cellsW, List.length_map, hnA]
  have hX1 : ∀ v ∈ X, v.oneCell' = true := by
    rw [hX]; intro v hv
    rw [cellsW, List.mem_map] at hv
    obtain ⟨x, _, rfl⟩ := hv
    rfl
  have hXc : ∀ (ad : Addr), a = some ad → ∀ W, Below w.heap.size w W → ∀ j v, X[j]? = some v → W.cell? (ad.add j) = some v := by
    intro ad had W hb j v hjv
    have hj : j < xs.length := by
      rcases Nat.lt_or_ge j X.length with h | h
      · omega
      · rw [List.getElem?_eq_none h] at hjv; cases hjv
    rw [hX, cellsW_get xs j hj] at hjv
    cases hjv
    exact Bw.cell_kept hb (HCE.out ad had j hj)
  have hsp : splice (List.replicate m (Value.int .u32 0)) 0 X = cellsW (xs ++ List.replicate (m - xs.length) 0) := by rw [hX]; exact splice_low xs m
  have hlen2 : (xs ++ List.replicate (m - xs.length) 0).length = m := by rw [List.length_append, List.length_replicate]; omega
  obtain ⟨R, hR⟩ : ∃ R, R = xs ++ List.replicate (m - xs.length) 0 := ⟨_, rfl⟩
  rw [← hR] at hsp hlen2 ⊢
  rw [← hnA] at hca hm hc1
  have HLA := Hid.mk hnA
  have HXL := Hid.mk hXl
  have HX1 := Hid.mk hX1
  have HXC := Hid.mk hXc
  have HSP := Hid.mk hsp
  have HL2 := Hid.mk hlen2
  have HM := Hid.mk hm
  have HC1 := Hid.mk hc1
  clear hh hcea hna hoa hca hma hc0 hc1 hXl hX1 hXc hsp hX hlen2 hnA hR hm
  go_enter Tryz.func98, Tryz.ntmps98
  set_option maxRecDepth 100000 in
  go_wp2_with (first
    | (at_make; refine wpList_make_full _ rfl (.tmp 8) (.tmp 8) 92 rfl w.heap.size 124 i0 (.int .u32 0) 1 Tryz.underlying92 hi hz0 hz1 .i64 .i64 _ _ m rfl rfl (by omega) (by omega) (by rw [hz2]; omega) (by unfold maxLen; omega) (Nat.le_refl _) ?_; intro w2 hown hgrow
       have hb2 : Below w.heap.size w w2 := Below.grown (Below.refl _ _) hgrow (Nat.le_refl _) (fun q hq => by cases hq)
       have hc0 := Bw.cell_kept hb2 HC0.out
       have hc1 := Bw.cell_kept hb2 HC1.out
       have hg2 := heap_of_made hown
       have HG2 := Hid.mk hg2
       clear hown hgrow hg2)
    | (with_reducible show wpList _ _ _ (Oper.mk (some 15) _ _ _ _ _ :: _) _ _
       refine wpList_copy_splice rfl (.tmp 10) (.tmp 14) 92 92 rfl 124 Tryz.underlying92 (by rw [hi]; simp [hz1]) (some ⟨w.heap.size, 0, none⟩) a m m nA ca rfl rfl w.heap.size 0 (List.replicate m (Value.int .u32 0)) 124 HG2.out X (copy_len HXL.out HM.out) (fun h0 => ⟨rfl, copy_src (fun ha => HNA.out ha) HLA.out HXL.out h0 (fun ad had => HXC.out ad had w2 hb2)⟩) (copy_fit HXL.out HM.out) HX1.out w.heap.size w hb2 (Nat.le_refl _) ?_; intro w3 HG3 hb3
       have hc0' := Bw.cell_kept hb3 HC0.out))
  go_ret
  exact ⟨rfl, owns_of_heap (by rw [← HSP.out]; exact HG3.out) HL2.out (Nat.le_refl _) (by unfold maxLen; omega), hb3⟩

set_option maxHeartbeats 4000000 in
theorem of_any (gz : Nat) (va : Value) (zs : List Nat) (w : World) (hz : isStruct w gz) (hW : IsW w va zs) (h0 : 0 < zs.length) (hl : zs.length ≤ 10000) (htop : zs.getD (zs.length - 1) 0 < 2147483648) :
    Calls Tryz.prog 99 #[.pointer (some ⟨gz, 0, none⟩), va] w fun e w' => e = .returned (.pointer (some ⟨gz, 0, none⟩)) ∧ IsInt w' gz (valW zs) ∧ Touch gz w w' := by
  have HW := Hid.mk hW
  have HZ := Hid.mk hz
  obtain ⟨a, ca, rfl, hca, hma, hna, hcea, hoa⟩ := hW
  cases a with
  | none => exact absurd (hna rfl) (by omega)
  | some p =>
    have hcx := hcea p rfl (zs.length - 1) (by omega)
    obtain ⟨top, htE⟩ : ∃ top, top = zs.getD (zs.length - 1) 0 := ⟨_, rfl⟩
    rw [← htE] at hcx htop
    have htr := fun W (hWW : IsW W (.slice (some p) zs.length ca) zs) => trim_any (.slice (some p) zs.length ca) zs W hWW (by omega)
    have HTR := Hid.mk htr
    obtain ⟨nA, hnA⟩ : ∃ n, n = zs.length := ⟨_, rfl⟩
    rw [← hnA] at HW HTR hcx h0 hl ⊢
    have h1 : (1 : Int) ≤ (nA : Int) := by omega
    have hidx : ((nA : Int) - 1).toNat = nA - 1 := by omega
    have htop0 : (top : Int) / 2147483648 = 0 := by omega
    have hti : (top : Int) ≤ 2147483647 := by omega
    clear hca hma hna hcea hoa hz htr htE hnA htop
    go_enter Tryz.func99, Tryz.ntmps99
    go_wp2_with fail
    refine (HTR.out w HW.out).mono ?_
    rintro e w1 ⟨v1, ys, rfl, hy, hyv, hyt, hyl, hw1⟩
    subst hw1
    have hgv := give_any gz v1 ys w1 HZ.out hy hyt
    rw [hyv] at hgv
    have HG := Hid.mk hgv
    clear hgv hy hyv hyt
    go_wp2_with fail
    refine HG.out.mono ?_
    rintro e w2 ⟨rfl, hI, ht⟩
    have HI := Hid.mk hI
    clear hI
    go_wp2_with fail
    go_ret
    exact ⟨rfl, HI.out, ht⟩
end Ww
end Go.Proofs.YtjeogdfejnoanacGreatDoor

/- What omnibusbig's Xor answers of numbers from 0 on. -/
namespace Go.Proofs.YtjeogdfejnoanacGreatDoor
open Go.ChangeShapes Go.WideShapes Go.ChangeAt Go.RowKit
namespace Ww
open Wm Bm

theorem xor_word (x y A B : Nat) (hx : x < 4294967296) (hy : y < 4294967296) : (x + 4294967296 * A) ^^^ (y + 4294967296 * B) = (x ^^^ y) + 4294967296 * (A ^^^ B) := by
  have e : (4294967296 : Nat) = 2 ^ 32 := rfl
  have hxy : x ^^^ y < 4294967296 := by rw [e] at *; exact Nat.xor_lt_two_pow hx hy
  have h1 : ((x + 4294967296 * A) ^^^ (y + 4294967296 * B)) % 4294967296 = x ^^^ y := by
    have := Nat.xor_mod_two_pow (a := x + 4294967296 * A) (b := y + 4294967296 * B) (n := 32)
    rw [← e] at this
    rw [this, Nat.add_mul_mod_self_left, Nat.add_mul_mod_self_left, Nat.mod_eq_of_lt hx, Nat.mod_eq_of_lt hy]
  have h2 : ((x + 4294967296 * A) ^^^ (y + 4294967296 * B)) / 4294967296 = A ^^^ B := by
    have := Nat.xor_div_two_pow (a := x + 4294967296 * A) (b := y + 4294967296 * B) (n := 32)
    rw [← e] at this
    rw [this]
    have ea : (x + 4294967296 * A) / 4294967296 = A := by omega
    have eb : (y + 4294967296 * B) / 4294967296 = B := by omega
    rw [ea, eb]
  have := Nat.div_add_mod ((x + 4294967296 * A) ^^^ (y + 4294967296 * B)) 4294967296
  rw [h1, h2] at this
  omega
def xorW : List Nat → List Nat → List Nat
  | x :: xs, y :: ys => (x ^^^ y) :: xorW xs ys
  | _, _ => []
theorem xorW_len : ∀ (a b : List Nat), a.length = b.length → (xorW a b).length = a.length
  | [], [], _ => rfl
  | [], _ :: _, h => by cases h
  | _ :: _, [], h => by cases h
  | x :: xs, y :: ys, h => by rw [xorW, List.length_cons, List.length_cons, xorW_len xs ys (by simpa using h)]
theorem xorW_val : ∀ (a b : List Nat), a.length = b.length → okW a → okW b → valW (xorW a b) = valW a ^^^ valW b
  | [], [], _, _, _ => rfl
  | [], _ :: _, h, _, _ => by cases h
  | _ :: _, [], h, _, _ => by cases h
  | x :: xs, y :: ys, h, ha, hb => by
    rw [xorW, valW, valW, valW, xorW_val xs ys (by simpa using h) (fun z hz => ha z (List.mem_cons_of_mem _ hz)) (fun z hz => hb z (List.mem_cons_of_mem _ hz)),
      xor_word x y _ _ (ha x List.mem_cons_self) (hb y List.mem_cons_self)]
theorem xorW_get : ∀ (a b : List Nat) (i : Nat), a.length = b.length → (xorW a b).getD i 0 = a.getD i 0 ^^^ b.getD i 0
  | [], [], i, _ => by simp [xorW]
  | [], _ :: _, _, h => by cases h
  | _ :: _, [], _, h => by cases h
  | x :: xs, y :: ys, 0, _ => by simp [xorW]
  | x :: xs, y :: ys, i + 1, h => by
    have := xorW_get xs ys i (by simpa using h)
    rw [xorW, List.getD_cons_succ, List.getD_cons_succ, List.getD_cons_succ, this]
theorem xorW_ok (a b : List Nat) (h : a.length = b.length) (ha : okW a) (hb : okW b) : okW (xorW a b) := by
  intro z hz
  obtain ⟨i, hi, rfl⟩ := List.mem_iff_getElem.1 hz
  have e := xorW_get a b i h
  have e2 : (xorW a b).getD i 0 = (xorW a b)[i] := by simp [List.getD, hi]
  rw [← e2, e]
  exact Nat.xor_lt_two_pow (n := 32) (okW_getD ha i) (okW_getD hb i)
/-- the first k words are turned by the others -/
def xorK (a b : List Nat) (k : Nat) : List Nat := (xorW a b).take k ++ a.drop k
theorem xorK_len (a b : List Nat) (k : Nat) (h : a.length = b.length) (hk : k ≤ a.length) : (xorK a b k).length = a.length := by
  unfold xorK
  rw [List.length_append, List.length_take, xorW_len a b h, List.length_drop]; omega
theorem xorK_at (a b : List Nat) (k : Nat) (h : a.length = b.length) (hk : k < a.length) : (xorK a b k).getD k 0 = a.getD k 0 := by
  unfold xorK
  have hl : ((xorW a b).take k).length = k := by rw [List.length_take, xorW_len a b h]; omega
  simp only [List.getD]
  rw [List.getElem?_append_right (by omega), hl, Nat.sub_self, List.getElem?_drop, Nat.add_zero]
theorem xorK_set (a b : List Nat) (k : Nat) (h : a.length = b.length) (hk : k < a.length) : (xorK a b k).set k (a.getD k 0 ^^^ b.getD k 0) = xorK a b (k + 1) := by
  unfold xorK
  have hw := xorW_len a b h
  have hl : ((xorW a b).take k).length = k := by rw [List.length_take, hw]; omega
  rw [List.set_append_right _ _ (by omega), hl, Nat.sub_self, take_snocN (xorW a b) k (by omega), xorW_get a b k h, List.append_assoc]
  congr 1
  rw [List.drop_eq_getElem_cons hk]
  rfl
theorem xorK_full (a b : List Nat) (h : a.length = b.length) : xorK a b a.length = xorW a b := by
  unfold xorK
  rw [List.drop_length, List.append_nil, List.take_of_length_le (by rw [xorW_len a b h]; omega)]
theorem valW_pad (xs : List Nat) (k : Nat) : valW (xs ++ List.replicate k 0) = valW xs := by rw [valW_append, valW_zeros]; simp
theorem okW_pad {xs : List Nat} (h : okW xs) (k : Nat) : okW (xs ++ List.replicate k 0) := okW_append h (fun x hx => by rw [List.eq_of_mem_replicate hx]; omega)
theorem pad_len (xs : List Nat) (m : Nat) (h : xs.length ≤ m) : (xs ++ List.replicate (m - xs.length) 0).length = m := by rw [List.length_append, List.length_replicate]; omega
theorem pad_top (xs : List Nat) (m : Nat) (h : xs.length ≤ m) : (xs ++ List.replicate (m + 1 - xs.length) 0).getD m 0 = 0 := by
  simp only [List.getD]
  rw [List.getElem?_append_right h]
  simp [List.getElem?_replicate]
  split <;> rfl

set_option maxHeartbeats 8000000 in
theorem xor_any (gz gx gy nx ny : Nat) (w : World) (hx : IsInt w gx nx) (hy : IsInt w gy ny) (hz : isStruct w gz) (hnx : nx < 2 ^ 5000) (hny : ny < 2 ^ 5000) :
    Calls Tryz.prog 69 #[.pointer (some ⟨gz, 0, none⟩), .pointer (some ⟨gx, 0, none⟩), .pointer (some ⟨gy, 0, none⟩)] w fun e w' => e = .returned (.pointer (some ⟨gz, 0, none⟩)) ∧ IsInt w' gz (nx ^^^ ny) ∧ Touch gz w w' := by
  obtain ⟨va, xs, hxh, hxW, hxt, hxv⟩ := hx
  obtain ⟨vb, ys, hyh, hyW, hyt, hyv⟩ := hy
  have hxl : xs.length ≤ 157 := len_of_val hxt hxv 5000 hnx 157 (by omega)
  have hyl : ys.length ≤ 157 := len_of_val hyt hyv 5000 hny 157 (by omega)
  have HXW := Hid.mk hxW
  have HYW := Hid.mk hyW
  have HXH := Hid.mk hxh
  have HYH := Hid.mk hyh
  have HZ := Hid.mk hz
  have HXV := Hid.mk hxv
  have HYV := Hid.mk hyv
  obtain ⟨a, ca, rfl, hra⟩ := hxW
  obtain ⟨b, cb, rfl, hrb⟩ := hyW
  have hcx := cell_of_row w gx 1 _ _ _ hxh
  have hcy := cell_of_row w gy 1 _ _ _ hyh
  simp only [List.getElem?_toArray, List.getElem?_cons_zero, List.getElem?_cons_succ] at hcx hcy
  have hox : okW xs := hra.2.2.2.2
  have hoy : okW ys := hrb.2.2.2.2
  have HOX := Hid.mk hox
  have HOY := Hid.mk hoy
  have hcase : ∃ N : Nat, xs.length + 1 ≤ N ∧ ys.length + 1 ≤ N ∧ N ≤ 158 ∧ (((xs.length : Int) < (ys.length : Int) ∧ (ys.length : Int) + 1 = (N : Int)) ∨ ((ys.length : Int) ≤ (xs.length : Int) ∧ (xs.length : Int) + 1 = (N : Int))) := by
    by_cases h : xs.length < ys.length
    · exact ⟨ys.length + 1, by omega, by omega, by omega, .inl ⟨by omega, by omega⟩⟩
    · exact ⟨xs.length + 1, by omega, by omega, by omega, .inr ⟨by omega, by omega⟩⟩
  obtain ⟨N, hN1, hN2, hN3, hcase⟩ := hcase
  have hXl := pad_len xs N (by omega)
  have hYl := pad_len ys N (by omega)
  have hXo := okW_pad hox (N - xs.length)
  have hYo := okW_pad hoy (N - ys.length)
  have hXv := valW_pad xs (N - xs.length)
  have hYv := valW_pad ys (N - ys.length)
  have hXt : (xs ++ List.replicate (N - xs.length) 0).getD (N - 1) 0 = 0 := by
    obtain ⟨q, rfl⟩ : ∃ q, N = q + 1 := ⟨N - 1, by omega⟩
    exact pad_top xs q (by omega)
  have hYt : (ys ++ List.replicate (N - ys.length) 0).getD (N - 1) 0 = 0 := by
    obtain ⟨q, rfl⟩ : ∃ q, N = q + 1 := ⟨N - 1, by omega⟩
    exact pad_top ys q (by omega)
  have hlowx := fun W h1 h2 => low_any gx N (.slice a xs.length ca) xs W h1 h2 (by omega) (by omega)
  have hlowy := fun W h1 h2 => low_any gy N (.slice b ys.length cb) ys W h1 h2 (by omega) (by omega)
  generalize xs ++ List.replicate (N - xs.length) 0 = XA at *
  generalize ys ++ List.replicate (N - ys.length) 0 = YB at *
  have HXl := Hid.mk hXl
  have HYl := Hid.mk hYl
  have HXo := Hid.mk hXo
  have HYo := Hid.mk hYo
  have HXv := Hid.mk hXv
  have HYv := Hid.mk hYv
  have HXt := Hid.mk hXt
  have HYt := Hid.mk hYt
  have HLX := Hid.mk hlowx
  have HLY := Hid.mk hlowy
  clear hnx hny hra hrb hxh hyh hz hxv hyv hxt hyt hox hoy hXl hYl hXo hYo hXv hYv hXt hYt hlowx hlowy
  go_enter Tryz.func69, Tryz.ntmps69
  rcases hcase with ⟨hle, hNe⟩ | ⟨hle, hNe⟩
  all_goals focus
    have HNE := Hid.mk hNe
    clear hNe
    go_wp2_with fail
    go_quiet (fail)
    go_wp2_with fail
    rw [HNE.out]
    have hXd : (w.drewN nq).heap[gx]? = some (.cells #[.bool false, .slice a xs.length ca] 94 (0, 0)) := HXH.out
    have hYd : (w.drewN nq).heap[gy]? = some (.cells #[.bool false, .slice b ys.length cb] 94 (0, 0)) := HYH.out
    have hXw : IsW (w.drewN nq) (.slice a xs.length ca) xs := HXW.out
    have hYw : IsW (w.drewN nq) (.slice b ys.length cb) ys := HYW.out
    have hgl : gy < (w.drewN nq).heap.size := by
      rcases Nat.lt_or_ge gy (w.drewN nq).heap.size with h | h
      · exact h
      · rw [Array.getElem?_eq_none h] at hYd; cases hYd
    refine (HLX.out (w.drewN nq) hXd hXw).mono ?_
    rintro e w1 ⟨rfl, hownA, hb1⟩
    have hly := HLY.out w1 (by rw [hb1.block gy hgl]; exact hYd) (hYw.below hb1)
    have HLY1 := Hid.mk hly
    have hbw1 : Below w.heap.size w w1 := ⟨hb1.os, hb1.tape, hb1.output, hb1.size, fun k hk => hb1.block k hk⟩
    have hownA1 : w1.ownsRow w.heap.size 124 1 (.slice (some ⟨w.heap.size, 0, none⟩) N N) N (cellsW XA) := hownA
    have hlt1 : w.heap.size < w1.heap.size := (hownA1.lt w.heap.size rfl).2
    clear hXd hYd hXw hYw hgl hownA hb1 hly
    go_wp2_with fail
    refine HLY1.out.mono ?_
    rintro e w2 ⟨rfl, hownB, hb2⟩
    have hownA2 := Bw.ownsRow_below hownA1 hb2
    have hbw2 : Below w.heap.size w w2 := hbw1.trans (hb2.mono (Nat.le_of_lt hlt1))
    clear hownA1 hb2 hbw1 HLY1
    go_wp2_with fail
    go_loopw [10] (fun i wr => ∃ k : Nat, k ≤ N ∧ i = .int .i64 k ∧ wr.ownsRow w.heap.size 124 1 (.slice (some ⟨w.heap.size, 0, none⟩) N N) N (cellsW (xorK XA YB k)) ∧
        wr.ownsRow w1.heap.size 124 1 (.slice (some ⟨w1.heap.size, 0, none⟩) N N) N (cellsW YB) ∧ Below w.heap.size w wr) (fun i _ => N - (intOf i).toNat)
    case atStart => exact ⟨0, Nat.zero_le _, rfl, by rw [show xorK XA YB 0 = XA by simp [xorK]]; exact hownA2, hownB, hbw2⟩
    case round =>
      clear hownA2 hownB hbw2
      obtain ⟨k, hk, rfl, hownA, hownB, hbel⟩ := hrel
      by_cases hlt : k < N
      · have hlt' : (k : Int) < (N : Int) := by omega
        have hcA := hownA.cellAt k (by omega)
        have hfA := hownA.frozenAt k
        have hcB := hownB.cellAt k (by omega)
        rw [cellsW_get _ k (by rw [xorK_len _ _ _ (by rw [HXl.out, HYl.out]) (by rw [HXl.out]; omega), HXl.out]; exact hlt), xorK_at _ _ _ (by rw [HXl.out, HYl.out]) (by rw [HXl.out]; exact hlt)] at hcA
        rw [cellsW_get _ k (by rw [HYl.out]; exact hlt)] at hcB
        have hxk := okW_getD HXo.out k
        have hyk := okW_getD HYo.out k
        have hset := xorK_set XA YB k (by rw [HXl.out, HYl.out]) (by rw [HXl.out]; exact hlt)
        obtain ⟨xk, hxE⟩ : ∃ xk, xk = XA.getD k 0 := ⟨_, rfl⟩
        obtain ⟨yk, hyE⟩ : ∃ yk, yk = YB.getD k 0 := ⟨_, rfl⟩
        rw [← hxE] at hcA hxk hset
        rw [← hyE] at hcB hyk hset
        have hxr := u32_xor_nat xk yk hxk hyk
        obtain ⟨z, hzE⟩ : ∃ z, z = xk ^^^ yk := ⟨_, rfl⟩
        rw [← hzE] at hxr hset
        have hst := hownA.stored k (.int .u32 (z : Int))
        rw [cellsW_setAt, hset] at hst
        have hB2 := hownB.kept hst.2 (.inr (by simp [Value.ownBlock]; omega))
        have hbel2 := hbel.grown hst.2 hbel.size (fun q hq => by cases hq; exact Nat.le_refl _)
        have HA2 := Hid.mk hst.1
        have HB2 := Hid.mk hB2
        clear hxE hyE hzE hset hst hB2 hownA hownB hxk hyk hbel
        go_wp2_with fail
        go_region
        all_goals focus
          go_wp2_with fail
          go_roundw
          case rel => exact ⟨k + 1, by omega, by go_num, HA2.out.drew, HB2.out.drew, hbel2.drew⟩
          case measure => simp [intOf]; omega
      · have e : k = N := by omega
        subst e
        have hWA : IsW wr (.slice (some ⟨w.heap.size, 0, none⟩) k k) (xorK XA YB k) := isW_own hownA (by rw [xorK_len _ _ _ (by rw [HXl.out, HYl.out]) (by rw [HXl.out]; omega), HXl.out]) (by unfold maxLen; omega) (by
          rw [show xorK XA YB k = xorW XA YB by rw [← HXl.out]; exact xorK_full XA YB (by rw [HXl.out, HYl.out])]
          exact xorW_ok XA YB (by rw [HXl.out, HYl.out]) HXo.out HYo.out)
        rw [show xorK XA YB k = xorW XA YB by rw [← HXl.out]; exact xorK_full XA YB (by rw [HXl.out, HYl.out])] at hWA
        have hlw : (xorW XA YB).length = k := by rw [xorW_len _ _ (by rw [HXl.out, HYl.out]), HXl.out]
        have hof := of_any gz _ (xorW XA YB) wr (isStruct.below HZ.out hbel) hWA (by omega) (by omega) (by rw [hlw, xorW_get _ _ _ (by rw [HXl.out, HYl.out]), HXt.out, HYt.out]; decide)
        rw [xorW_val _ _ (by rw [HXl.out, HYl.out]) HXo.out HYo.out, HXv.out, HYv.out, HXV.out, HYV.out] at hof
        have HOF := Hid.mk hof
        clear hWA hlw hof hownA hownB
        go_wp2_with fail
        refine HOF.out.mono ?_
        rintro e w3 ⟨rfl, hI, ht⟩
        have HI := Hid.mk hI
        clear hI
        go_wp2_with fail
        go_ret
        exact ⟨rfl, HI.out, (Touch.of_below hbel).trans ht⟩
end Ww
end Go.Proofs.YtjeogdfejnoanacGreatDoor

/- What omnibusbig's SetBit answers where a number below 2^i gets its bit i, i below 32. -/
namespace Go.Proofs.YtjeogdfejnoanacGreatDoor
open Go.ChangeShapes Go.WideShapes Go.ChangeAt Go.RowKit
namespace Ww
open Wm Bm

theorem mask_low (n i : Nat) (hn : n < 2 ^ i) (hi : i ≤ 31) : n &&& (4294967295 - 2 ^ i) = n := by
  have hp := Nat.two_pow_pos i
  have hle : n &&& (4294967295 - 2 ^ i) < 2 ^ i := Nat.lt_of_le_of_lt Nat.and_le_left hn
  have e1 : (4294967295 - 2 ^ i) % 2 ^ i = 2 ^ i - 1 := by
    have e32 : 4294967296 = 2 ^ i * 2 ^ (32 - i) := by rw [← Nat.pow_add, show i + (32 - i) = 32 by omega]
    have e2 : 2 ^ (32 - i) = 2 * 2 ^ (31 - i) := by rw [show 32 - i = (31 - i) + 1 by omega, Nat.pow_succ]; omega
    have hp2 := Nat.two_pow_pos (31 - i)
    have e3 : 4294967295 - 2 ^ i = (2 ^ i - 1) + 2 ^ i * (2 ^ (32 - i) - 2) := by
      have : 2 ^ i * (2 ^ (32 - i) - 2) = 2 ^ i * 2 ^ (32 - i) - 2 ^ i * 2 := Nat.mul_sub ..
      rw [this, ← e32]
      have : 2 ^ i * 2 ≤ 4294967296 := by rw [e32, e2]; exact Nat.mul_le_mul_left _ (by omega)
      omega
    rw [e3, Nat.add_mul_mod_self_left]
    exact Nat.mod_eq_of_lt (by omega)
  have e := Nat.and_mod_two_pow (a := n) (b := 4294967295 - 2 ^ i) (n := i)
  rw [Nat.mod_eq_of_lt hle, Nat.mod_eq_of_lt hn, e1, Nat.and_two_pow_sub_one_eq_mod, Nat.mod_eq_of_lt hn] at e
  exact e
theorem bit_clear (n i : Nat) (hn : n < 2 ^ i) (hi : i ≤ 31) : bits .andNot .u32 (n : Int) (2 ^ i % 4294967296) = (n : Int) := by
  have h32 : 2 ^ i ≤ 2 ^ 31 := Nat.pow_le_pow_right (by omega) hi
  have e : ((2 : Int) ^ i % 4294967296) = ((2 ^ i : Nat) : Int) := by
    rw [show (2 : Int) ^ i = ((2 ^ i : Nat) : Int) by simp]; omega
  rw [e, u32_andNot_nat n (2 ^ i) (by omega) (by omega), mask_low n i hn hi]
theorem bit_set (n i : Nat) (hn : n < 2 ^ i) (hi : i ≤ 31) : bits .or .u32 (n : Int) (bits .and .u64 1 1 % 4294967296 * 2 ^ i % 4294967296) = ((2 ^ i + n : Nat) : Int) := by
  have h32 : 2 ^ i ≤ 2 ^ 31 := Nat.pow_le_pow_right (by omega) hi
  have e1 : bits .and .u64 1 1 = 1 := by rfl
  have e : ((1 : Int) % 4294967296 * 2 ^ i % 4294967296) = ((2 ^ i : Nat) : Int) := by
    rw [show (2 : Int) ^ i = ((2 ^ i : Nat) : Int) by simp]; omega
  rw [e1, e, u32_or_nat n (2 ^ i) (by omega) (by omega)]
  congr 1
  have := Nat.two_pow_add_eq_or_of_lt hn 1
  rw [Nat.mul_one] at this
  rw [this, Nat.or_comm]

set_option maxHeartbeats 8000000 in
theorem setBit_any (gz gx nx i : Nat) (w : World) (hx : IsInt w gx nx) (hz : isStruct w gz) (h1 : 1 ≤ nx) (hnx : nx < 2 ^ i) (hi : i ≤ 31) :
    Calls Tryz.prog 70 #[.pointer (some ⟨gz, 0, none⟩), .pointer (some ⟨gx, 0, none⟩), .int .i64 i, .int .u64 1] w fun e w' => e = .returned (.pointer (some ⟨gz, 0, none⟩)) ∧ IsInt w' gz (2 ^ i + nx) ∧ Touch gz w w' := by
  obtain ⟨va, xs, hxh, hxW, hxt, hxv⟩ := hx
  have hi32 : 2 ^ i ≤ 2 ^ 31 := Nat.pow_le_pow_right (by omega) hi
  have hxl : xs.length ≤ 1 := len_of_val hxt hxv 32 (by omega) 1 (by omega)
  have hxs : xs = [nx] := by
    match xs, hxl, hxv with
    | [], _, h => simp [valW] at h; omega
    | [x], _, h => simp [valW] at h; rw [h]
  subst hxs
  have HZ := Hid.mk hz
  have HXH := Hid.mk hxh
  have HXW := Hid.mk hxW
  have hlow := low_any gx 2 va [nx] w hxh hxW (by simp) (by omega)
  obtain ⟨a, ca, rfl, hra⟩ := hxW
  have hcx := cell_of_row w gx 1 _ _ _ hxh
  simp only [List.getElem?_toArray, List.getElem?_cons_zero, List.getElem?_cons_succ] at hcx
  have HL := Hid.mk hlow
  have HNX := Hid.mk hnx
  have HI32 := Hid.mk hi32
  have hq : (i : Int) / 32 = 0 := by omega
  have hr : (i : Int) % 32 = (i : Int) := by omega
  have hii : (i : Int) ≤ 31 := by omega
  clear hra hxh hz hxv hxt hlow hnx hi32 hxl
  go_enter Tryz.func70, Tryz.ntmps70
  go_wp2_with fail
  refine HL.out.mono ?_
  rintro e w1 ⟨rfl, hown, hb1⟩
  have hc0 := hown.cellAt 0 (by omega)
  have hf0 := hown.frozenAt 0
  simp [cellsW] at hc0
  have hk1 := bit_clear nx i HNX.out hi
  have hk2 := bit_set nx i HNX.out hi
  obtain ⟨M, hM⟩ : ∃ M, M = 2 ^ i + nx := ⟨_, rfl⟩
  rw [← hM] at hk2
  have hMb : M < 4294967296 := by rw [hM]; have := HNX.out; have := HI32.out; omega
  have hnb : nx < 4294967296 := by have := HNX.out; have := HI32.out; omega
  have hst1 := hown.stored 0 (.int .u32 (nx : Int))
  have hst2 := hst1.1.stored 0 (.int .u32 (M : Int))
  have hc4 := hst1.1.cellAt 0 (by omega)
  have hf4 := hst1.1.frozenAt 0
  rw [show ((cellsW ([nx] ++ List.replicate (2 - [nx].length) 0)).set 0 (.int .u32 (nx : Int)))[0]? = some (.int .u32 (nx : Int)) by simp [cellsW]] at hc4
  have hfin := hst2.1
  rw [show (((cellsW ([nx] ++ List.replicate (2 - [nx].length) 0)).set 0 (.int .u32 (nx : Int))).set 0 (.int .u32 (M : Int))) = cellsW [M, 0] by simp [cellsW]] at hfin
  have hbel2 := ((hb1.grown hst1.2 hb1.size (fun q hq => by cases hq; exact Nat.le_refl _)).grown hst2.2 (Nat.le_trans hb1.size hst1.2.size) (fun q hq => by cases hq; exact Nat.le_refl _))
  have hWA := isW_own hfin rfl (by unfold maxLen; omega) (by intro x hx; simp at hx; omega)
  have hof := of_any gz _ [M, 0] _ (isStruct.below HZ.out hbel2) hWA (by simp) (by simp) (by simp)
  rw [show valW [M, 0] = M by simp [valW], hM] at hof
  rw [← hM] at hof
  have HOF := Hid.mk hof
  have HB2 := Hid.mk hbel2
  have HMM := Hid.mk hM
  clear HL hown hst1 hst2 hfin hbel2 hWA hof hM hMb hb1
  go_wp2_with fail
  refine HOF.out.mono ?_
  rintro e w3 ⟨rfl, hI, ht⟩
  have HI := Hid.mk hI
  clear hI
  go_wp2_with fail
  go_ret
  exact ⟨rfl, by rw [← HMM.out]; exact HI.out, (Touch.of_below HB2.out).trans ht⟩
end Ww
end Go.Proofs.YtjeogdfejnoanacGreatDoor

/- Facts that the walk of the document's own SumOf asks for: a big number at a block is one number; a step of the division makes it smaller. -/
namespace Go.Proofs.YtjeogdfejnoanacGreatDoor
open Go.ChangeShapes Go.WideShapes Go.ChangeAt Go.RowKit
namespace Ww
open Wm Bm Cm

theorem IsW.uniq {w : World} {v : Value} {xs ys : List Nat} (h : IsW w v xs) (k : IsW w v ys) : xs = ys := by
  obtain ⟨a, c, rfl, _, _, hn, hc, _⟩ := h
  obtain ⟨a', c', e, _, _, _, hc', _⟩ := k
  injection e with e1 e2 e3
  subst e1
  apply List.ext_getElem e2
  intro i h1 h2
  cases a with
  | none => have := hn rfl; omega
  | some p =>
    have g1 := hc p rfl i h1
    have g2 := hc' p rfl i h2
    rw [g1] at g2
    have g3 : (xs.getD i 0 : Int) = (ys.getD i 0 : Int) := by
      injection g2 with g2
      injection g2
    have g4 : xs.getD i 0 = ys.getD i 0 := by omega
    simpa [List.getD, h1, h2] using g4
theorem IsInt.uniq {w : World} {g n m : Nat} (h : IsInt w g n) (k : IsInt w g m) : n = m := by
  obtain ⟨va, xs, hh, hW, _, hv⟩ := h
  obtain ⟨vb, ys, hh', hW', _, hv'⟩ := k
  rw [hh] at hh'
  injection hh' with e
  injection e with e1
  have e2 : va = vb := by
    have := congrArg (fun z : Array Value => z[1]?) e1
    simpa using this
  subst e2
  rw [← hv, ← hv', hW.uniq hW']
open Classical in
noncomputable def valAt (w : World) (g : Nat) : Nat := if h : ∃ n, IsInt w g n then h.choose else 0
theorem valAt_eq {w : World} {g n : Nat} (h : IsInt w g n) : valAt w g = n := by
  unfold valAt
  have hx : ∃ n, IsInt w g n := ⟨n, h⟩
  rw [dif_pos hx]
  exact hx.choose_spec.uniq h

theorem len_uniq {n L K : Nat} (h1 : n < 2 ^ L) (h2 : L = 0 ∨ 2 ^ (L - 1) ≤ n) (k1 : n < 2 ^ K) (k2 : K = 0 ∨ 2 ^ (K - 1) ≤ n) : L = K := by
  have key : ∀ {a b : Nat}, n < 2 ^ a → (b = 0 ∨ 2 ^ (b - 1) ≤ n) → b ≤ a := by
    intro a b ha hb
    rcases hb with rfl | hb
    · omega
    · rcases Nat.lt_or_ge a b with h | h
      · have : 2 ^ a ≤ 2 ^ (b - 1) := Nat.pow_le_pow_right (by omega) (by omega)
        omega
      · exact h
  exact Nat.le_antisymm (key k1 h2) (key h1 k2)
/-- the highest bit goes out -/
theorem red_lt {n L s p : Nat} (h1 : n < 2 ^ L) (h2 : 2 ^ (L - 1) ≤ n) (hs : s < L) (hp : p < 2 ^ s) : n ^^^ ((2 ^ s + p) * 2 ^ (L - s - 1)) < 2 ^ (L - 1) := by
  obtain ⟨k, rfl⟩ : ∃ k, L = s + k + 1 := ⟨L - s - 1, by omega⟩
  have e : s + k + 1 - s - 1 = k := by omega
  rw [e] at *
  rw [show s + k + 1 - 1 = s + k by omega] at *
  have d1 : 2 ^ (s + k) ≤ (2 ^ s + p) * 2 ^ k := by rw [Nat.pow_add]; exact Nat.mul_le_mul_right _ (by omega)
  have d2 : (2 ^ s + p) * 2 ^ k < 2 ^ (s + k + 1) := by
    rw [show s + k + 1 = (s + 1) + k by omega, Nat.pow_add (m := s + 1)]
    exact Nat.mul_lt_mul_of_pos_right (by rw [Nat.pow_succ]; omega) (Nat.two_pow_pos k)
  have hx := top_split n (s + k) h1
  have hd := top_split ((2 ^ s + p) * 2 ^ k) (s + k) d2
  have q1 : n / 2 ^ (s + k) = 1 := by
    have a : 1 ≤ n / 2 ^ (s + k) := (Nat.le_div_iff_mul_le (Nat.two_pow_pos _)).2 (by omega)
    have b : n / 2 ^ (s + k) < 2 := Nat.div_lt_of_lt_mul (by rw [Nat.pow_succ] at h1; omega)
    omega
  have q2 : (2 ^ s + p) * 2 ^ k / 2 ^ (s + k) = 1 := by
    have a : 1 ≤ (2 ^ s + p) * 2 ^ k / 2 ^ (s + k) := (Nat.le_div_iff_mul_le (Nat.two_pow_pos _)).2 (by omega)
    have b : (2 ^ s + p) * 2 ^ k / 2 ^ (s + k) < 2 := Nat.div_lt_of_lt_mul (by rw [Nat.pow_succ] at d2; omega)
    omega
  rw [q1] at hx
  rw [q2] at hd
  rw [hx, hd, xor4, Nat.xor_self, Nat.xor_zero]
  exact lt_xor (Nat.mod_lt _ (Nat.two_pow_pos _)) (Nat.mod_lt _ (Nat.two_pow_pos _))
/-- and what is left differs from it by a multiple -/
theorem red_mul {n T L s p : Nat} (h : Mul (2 ^ s + p) (n ^^^ T)) : Mul (2 ^ s + p) ((n ^^^ ((2 ^ s + p) * 2 ^ (L - s - 1))) ^^^ T) := by
  have := h.xor (Mul.shift (2 ^ s + p) (L - s - 1))
  rw [Nat.xor_assoc, Nat.xor_comm T, ← Nat.xor_assoc] at this
  exact this
end Ww
end Go.Proofs.YtjeogdfejnoanacGreatDoor

/- The document's own Value of a row, whole; and what Uint64 and Int64 tell of a big number below 2^62. -/
namespace Go.Proofs.YtjeogdfejnoanacGreatDoor
open Go.ChangeShapes Go.WideShapes Go.ChangeAt Go.RowKit
namespace Ww
open Wm Bm

set_option maxHeartbeats 1000000 in
theorem value_row (s : ByteArray) (w : World) (h2 : s.size ≤ 1000) (hrow : rowB s.data.toList = true) :
    Calls Tryz.prog 66 #[.string s] w fun e w' => e = .returned (.pointer (some ⟨w.heap.size, 0, none⟩)) ∧ IsInt w' w.heap.size (val s.data.toList) ∧ Below w.heap.size w w' := by
  have hnew : (w.alloc (.cells #[.bool false, .slice none 0 0] 94)).heap[w.heap.size]? = some (.cells #[.bool false, .slice none 0 0] 94 (0, 0)) := heap_alloc_new w _
  by_cases h0 : s.size = 0
  · have he : s = ⟨#[]⟩ := by
      cases s with
      | mk d => have : d.size = 0 := h0; rw [Array.eq_empty_of_size_eq_zero this]
    subst he
    have HI : Hid (IsInt (w.alloc (.cells #[.bool false, .slice none 0 0] 94)) w.heap.size (val (ByteArray.mk #[]).data.toList)) := ⟨_, [], hnew, isW_nil _, Or.inl rfl, rfl⟩
    clear hnew hrow h0
    go_enter Tryz.func66, Tryz.ntmps66
    go_wp2_with fail
    go_ret
    exact ⟨rfl, HI.out, (Below.refl _ _).alloc (Nat.le_refl _) _⟩
  · have hset := setString_any w.heap.size s _ (by omega) h2 hrow hnew
    have HS := Hid.mk hset
    have hne3 : (s.toList == []) = false := by
      rw [beq_eq_false_iff_ne, ByteArray.toList_eq]
      intro e
      have := congrArg List.length e
      rw [Array.length_toList] at this
      exact h0 this
    clear hset hnew hrow
    go_enter Tryz.func66, Tryz.ntmps66
    go_wp2_with fail
    refine HS.out.mono ?_
    rintro e w1 ⟨⟨r, rfl⟩, hI, hb⟩
    have HI := Hid.mk hI
    clear hI
    go_wp2_with fail
    go_ret
    exact ⟨rfl, HI.out, ((Below.refl _ _).alloc (Nat.le_refl _) _).trans hb⟩

theorem addr_zero (p : Addr) : p.add 0 = p := by
  cases p with
  | mk b o t => unfold Addr.add; cases t <;> simp

theorem or_hi (x y : Nat) (hx : x < 4294967296) (hy : y < 1073741824) : bits .or .u64 (x : Int) ((y : Int) * 4294967296) = (x : Int) + 4294967296 * (y : Int) := by
  have hc : bits .or .u64 (x : Int) ((y : Int) * 4294967296) = bits .or .u64 ((y : Int) * 4294967296) (x : Int) := by simp only [bits, BitVec.or_comm]
  rw [hc, bits_join .u64 63 (by decide) (fun n h0 h1 => by simp only [IntKind.wrap, IntKind.bits, IntKind.signed]; simp; omega) 32 _ _ (by omega) (by omega) (by omega) (by omega) (by omega) (by omega)]
  omega

set_option maxHeartbeats 2000000 in
theorem int64_any (g n : Nat) (w : World) (h : IsInt w g n) (hn : n < 2 ^ 62) :
    Calls Tryz.prog 72 #[.pointer (some ⟨g, 0, none⟩)] w fun e w' => e = .returned (.int .i64 n) ∧ w' = w := by
  obtain ⟨va, xs, hg, hW, hT, hV⟩ := h
  have hl : xs.length ≤ 2 := len_of_val hT hV 62 hn 2 (by omega)
  obtain ⟨a, c, rfl, hc, hm, hnil, hcells, hok⟩ := hW
  have hc0 := cell_of_row w g 0 _ _ _ hg
  have hc1 := cell_of_row w g 1 _ _ _ hg
  simp only [List.getElem?_toArray, List.getElem?_cons_zero, List.getElem?_cons_succ] at hc0 hc1
  match xs, hl with
  | [], _ =>
    have hn0 : n = 0 := by rw [← hV]; rfl
    subst hn0
    clear hg hcells hnil hok hT hV
    simp only [List.length_nil] at hc1
    go_enter Tryz.func72, Tryz.ntmps72
    go_wp2
    go_ret
    exact ⟨rfl, rfl⟩
  | [x], _ =>
    have hv : x = n := by rw [← hV]; simp [valW]
    subst hv
    cases a with
    | none => exact absurd (hnil rfl) (by simp)
    | some p =>
      have h0 := hcells p rfl 0 (by simp)
      have hx := hok x (by simp)
      have hx' : (x : Int) ≤ 4294967295 := by omega
      rw [addr_zero] at h0
      simp only [List.length_singleton, List.getD_cons_zero] at hc1 h0
      clear hg hcells hnil hok hT hV
      go_enter Tryz.func72, Tryz.ntmps72
      go_wp2
      go_ret
      exact ⟨rfl, rfl⟩
  | [x, y], _ =>
    have hv : n = x + 4294967296 * y := by rw [← hV]; simp [valW]
    cases a with
    | none => exact absurd (hnil rfl) (by simp)
    | some p =>
      have h0 := hcells p rfl 0 (by simp)
      have h1 := hcells p rfl 1 (by simp)
      have hx := hok x (by simp)
      have hy := hok y (by simp)
      have hy2 : y < 1073741824 := by omega
      have hor := or_hi x y hx hy2
      have hx' : (x : Int) ≤ 4294967295 := by omega
      have hy' : (y : Int) ≤ 1073741823 := by omega
      rw [addr_zero] at h0
      simp only [List.length_cons, List.length_nil, List.getD_cons_zero, List.getD_cons_succ] at hc1 h0 h1
      have HV := Hid.mk hv
      have h1' : w.cell? ⟨p.block, p.off + 1, none⟩ = some (.int .u32 (y : Int)) := by rw [← h1]; simp [Addr.add]
      clear hg hcells hnil hok hT hV hv hn h1
      go_enter Tryz.func72, Tryz.ntmps72
      go_wp2
      go_ret
      exact ⟨by rw [HV.out]; rfl, rfl⟩
end Ww
end Go.Proofs.YtjeogdfejnoanacGreatDoor

/- What the document's own SumOf answers of a row by one of the five kinds: what the register holds behind the row, turned at the end, as a row of its bits. -/
namespace Go.Proofs.YtjeogdfejnoanacGreatDoor
open Go.ChangeShapes Go.WideShapes Go.ChangeAt Go.RowKit
namespace Ww
open Wm Bm Cm

theorem tabS (k : Nat) (h : k ≤ 4) : (#[Value.int .i64 15, .int .i64 17, .int .i64 21, .int .i64 8, .int .i64 16] : Array Value)[k]? = some (.int .i64 (kS k)) := by
  match k, h with
  | 0, _ => rfl
  | 1, _ => rfl
  | 2, _ => rfl
  | 3, _ => rfl
  | 4, _ => rfl
theorem tabP (k : Nat) (h : k ≤ 4) : (#[Value.int .i64 17817, .int .i64 92251, .int .i64 1058969, .int .i64 47, .int .i64 4129] : Array Value)[k]? = some (.int .i64 (kP k)) := by
  match k, h with
  | 0, _ => rfl
  | 1, _ => rfl
  | 2, _ => rfl
  | 3, _ => rfl
  | 4, _ => rfl
theorem tabF (k : Nat) (h : k ≤ 4) : (#[Value.int .i64 0, .int .i64 65536, .int .i64 1048576, .int .i64 255, .int .i64 65535] : Array Value)[k]? = some (.int .i64 (kF k)) := by
  match k, h with
  | 0, _ => rfl
  | 1, _ => rfl
  | 2, _ => rfl
  | 3, _ => rfl
  | 4, _ => rfl
theorem tabE (k : Nat) (h : k ≤ 4) : (#[Value.int .i64 0, .int .i64 0, .int .i64 0, .int .i64 255, .int .i64 0] : Array Value)[k]? = some (.int .i64 (kE k)) := by
  match k, h with
  | 0, _ => rfl
  | 1, _ => rfl
  | 2, _ => rfl
  | 3, _ => rfl
  | 4, _ => rfl
theorem new_cell (W : World) (cs : Array Value) (t : TypeId) (k g : Nat) (hg : g = W.heap.size) : (W.alloc (.cells cs t)).cell? ⟨g, k, none⟩ = cs[k]? := by
  subst hg
  exact cell_of_row _ _ k _ _ _ (heap_alloc_new W _)

theorem up_lt {n a c : Nat} (h : n < 2 ^ a) (ha : a ≤ c) : n < 2 ^ c := Nat.lt_of_lt_of_le h (Nat.pow_le_pow_right (Nat.succ_pos 1) ha)
theorem sh_lt {n a k c : Nat} (h : n < 2 ^ a) (ha : a + k ≤ c) : n * 2 ^ k < 2 ^ c := by
  apply up_lt (a := a + k) _ ha
  rw [Nat.pow_add]
  exact Nat.mul_lt_mul_of_pos_right h (Nat.two_pow_pos k)
theorem crcT_lt {v s f n a e c : Nat} (hv : v < 2 ^ a) (hf : f < 2 ^ e) (h1 : a + s ≤ c) (h2 : e + n ≤ c) : v * 2 ^ s ^^^ f * 2 ^ n < 2 ^ c :=
  Nat.xor_lt_two_pow (sh_lt hv h1) (sh_lt hf h2)
theorem len_le {n L c : Nat} (hn : n < 2 ^ c) (h : L = 0 ∨ 2 ^ (L - 1) ≤ n) : L ≤ c := by
  rcases h with h | h
  · omega
  · rcases Nat.lt_or_ge c L with h' | h'
    · exact absurd (Nat.lt_of_le_of_lt (Nat.le_trans (Nat.pow_le_pow_right (Nat.succ_pos 1) (show c ≤ L - 1 by omega)) h) hn) (Nat.lt_irrefl _)
    · exact h'
theorem d_lt {s p : Nat} (hs : s ≤ 21) (hp : p < 2 ^ s) : 2 ^ s + p < 2 ^ 22 := by
  have : 2 ^ s ≤ 2 ^ 21 := Nat.pow_le_pow_right (Nat.succ_pos 1) hs
  omega
theorem IsInt.lt {w : World} {g n : Nat} (h : IsInt w g n) : g < w.heap.size := by
  obtain ⟨va, xs, hh, _⟩ := h
  rcases Nat.lt_or_ge g w.heap.size with h' | h'
  · exact h'
  · rw [Array.getElem?_eq_none h'] at hh; cases hh

set_option maxHeartbeats 16000000 in
theorem sumOf_any (kd : Nat) (b : ByteArray) (w : World) (h : w.cell? ⟨5, 1, none⟩ = some (.int .u8 1)) (hk : kd ≤ 4) (h1000 : b.size ≤ 1000) (hrow : rowB b.data.toList = true) :
    Calls Tryz.prog 35 #[.int .i64 kd, .string b] w fun e w' => e = .returned (.string ⟨(Bw.bitsHead (sumV kd b.data.toList) (kS kd) (kS kd)).toArray⟩) ∧ Below w.heap.size w w' := by
  have HH := Hid.mk h
  have HR := Hid.mk hrow
  have c1 := new_cell w #[Value.int .i64 15, .int .i64 17, .int .i64 21, .int .i64 8, .int .i64 16] 3 kd w.heap.size rfl
  have c2 := new_cell (w.alloc (.cells #[Value.int .i64 15, .int .i64 17, .int .i64 21, .int .i64 8, .int .i64 16] 3)) #[Value.int .i64 17817, .int .i64 92251, .int .i64 1058969, .int .i64 47, .int .i64 4129] 2 kd (w.heap.size + 1) (by simp)
  have c3 := new_cell ((w.alloc (.cells #[Value.int .i64 15, .int .i64 17, .int .i64 21, .int .i64 8, .int .i64 16] 3)).alloc (.cells #[Value.int .i64 17817, .int .i64 92251, .int .i64 1058969, .int .i64 47, .int .i64 4129] 2)) #[Value.int .i64 0, .int .i64 65536, .int .i64 1048576, .int .i64 255, .int .i64 65535] 2 kd (w.heap.size + 2) (by simp)
  have c4 := new_cell (((w.alloc (.cells #[Value.int .i64 15, .int .i64 17, .int .i64 21, .int .i64 8, .int .i64 16] 3)).alloc (.cells #[Value.int .i64 17817, .int .i64 92251, .int .i64 1058969, .int .i64 47, .int .i64 4129] 2)).alloc (.cells #[Value.int .i64 0, .int .i64 65536, .int .i64 1048576, .int .i64 255, .int .i64 65535] 2)) #[Value.int .i64 0, .int .i64 0, .int .i64 0, .int .i64 255, .int .i64 0] 2 kd (w.heap.size + 3) (by simp)
  rw [tabS kd hk] at c1
  rw [tabP kd hk] at c2
  rw [tabF kd hk] at c3
  rw [tabE kd hk] at c4
  obtain ⟨s8, s21, p1, hp, hf, he, hpb, hfb, heb⟩ := kinds_ok kd hk
  unfold sumV
  generalize kS kd = s at *
  generalize kP kd = p at *
  generalize kF kd = f at *
  generalize kE kd = en at *
  have HP := Hid.mk hp
  have HFF := Hid.mk hf
  have HEE := Hid.mk he
  have hk' : (kd : Int) < 5 := by omega
  have s8' : (8 : Int) ≤ (s : Int) := by omega
  have s21' : (s : Int) ≤ 21 := by omega
  clear h hrow hp hf he
  go_enter Tryz.func35, Tryz.ntmps35
  set_option maxRecDepth 100000 in
  go_wp2_with fail
  have hsz4 : ((((w.alloc (.cells #[Value.int .i64 15, .int .i64 17, .int .i64 21, .int .i64 8, .int .i64 16] 3)).alloc (.cells #[Value.int .i64 17817, .int .i64 92251, .int .i64 1058969, .int .i64 47, .int .i64 4129] 2)).alloc (.cells #[Value.int .i64 0, .int .i64 65536, .int .i64 1048576, .int .i64 255, .int .i64 65535] 2)).alloc (.cells #[Value.int .i64 0, .int .i64 0, .int .i64 0, .int .i64 255, .int .i64 0] 2)).heap.size = w.heap.size + 4 := by simp
  have hb4 : Below w.heap.size w ((((w.alloc (.cells #[Value.int .i64 15, .int .i64 17, .int .i64 21, .int .i64 8, .int .i64 16] 3)).alloc (.cells #[Value.int .i64 17817, .int .i64 92251, .int .i64 1058969, .int .i64 47, .int .i64 4129] 2)).alloc (.cells #[Value.int .i64 0, .int .i64 65536, .int .i64 1048576, .int .i64 255, .int .i64 65535] 2)).alloc (.cells #[Value.int .i64 0, .int .i64 0, .int .i64 0, .int .i64 255, .int .i64 0] 2)) :=
    ((((Below.refl _ w).alloc (Nat.le_refl _) _).alloc (by simp) _).alloc (by simp; omega) _).alloc (by simp; omega) _
  generalize ((((w.alloc (.cells #[Value.int .i64 15, .int .i64 17, .int .i64 21, .int .i64 8, .int .i64 16] 3)).alloc (.cells #[Value.int .i64 17817, .int .i64 92251, .int .i64 1058969, .int .i64 47, .int .i64 4129] 2)).alloc (.cells #[Value.int .i64 0, .int .i64 65536, .int .i64 1048576, .int .i64 255, .int .i64 65535] 2)).alloc (.cells #[Value.int .i64 0, .int .i64 0, .int .i64 0, .int .i64 255, .int .i64 0] 2)) = W4 at *
  clear c1 c2 c3 c4
  obtain ⟨gn, hgn⟩ : ∃ gn, gn = W4.heap.size := ⟨_, rfl⟩
  have hgw : w.heap.size ≤ gn := by rw [hgn]; exact hb4.size
  refine (value_row b W4 h1000 HR.out).mono ?_
  rintro e w5 ⟨rfl, hI5, hb5⟩
  rw [← hgn] at hI5 ⊢
  have hbel5 : Below w.heap.size w w5 := hb4.trans (hb5.mono hb4.size)
  have hl : b.data.toList.length = b.size := by simp
  have HV := Hid.mk (up_lt (c := 1000) (val_lt _ HR.out) (by omega))
  have hlsh6 := lsh_any gn gn (val b.data.toList) s w5 hI5 hI5.struct (up_lt (a := 1000) (c := 5000) HV.out (by omega)) (by omega)
  have HL6 := Hid.mk hlsh6
  have HLL := Hid.mk hl
  have hgn5 := hI5.lt
  clear hlsh6 hI5 hb5 hb4 hsz4 hgn hl
  go_wp2_with fail
  refine HL6.out.mono ?_
  rintro e w6 ⟨rfl, hI6, ht6⟩
  have hbel6 : Below w.heap.size w w6 := hbel5.trans (ht6.below hgw hbel5.size)
  have HI6 := Hid.mk hI6
  have hgn6 := hI6.lt
  clear hI6 ht6 hbel5 HL6 hgn5
  go_wp2_with fail
  refine (newInt_any f w6 (by omega)).mono ?_
  rintro e w7 ⟨rfl, hI7, hb7⟩
  have hIn7 := HI6.out.below hb7
  have hbel7 : Below w.heap.size w w7 := hbel6.trans (hb7.mono hbel6.size)
  have hlsh8 := lsh_any w6.heap.size w6.heap.size f b.size w7 hI7 hI7.struct (up_lt (a := 21) (c := 5000) (Nat.lt_of_le_of_lt hfb (by decide)) (by omega)) (by omega)
  have HL8 := Hid.mk hlsh8
  have HI7 := Hid.mk hI7
  have HIn7 := Hid.mk hIn7
  clear hlsh8 hI7 hIn7 hb7 HI6
  go_wp2_with fail
  refine HL8.out.mono ?_
  rintro e w8 ⟨rfl, hI8, ht8⟩
  have hIn8 := HIn7.out.touch (by omega) HI7.out.struct ht8
  have hbel8 : Below w.heap.size w w8 := hbel7.trans (ht8.below hbel6.size hbel7.size)
  have hx9 := xor_any gn gn w6.heap.size _ _ w8 hIn8 hI8 hIn8.struct (sh_lt (a := 1000) (c := 5000) HV.out (by omega)) (sh_lt (a := 21) (c := 5000) (n := f) (Nat.lt_of_le_of_lt hfb (by decide)) (by omega))
  have HX9 := Hid.mk hx9
  clear hx9 hI8 hIn8 ht8 hbel7 hbel6 HL8 HI7 HIn7
  go_wp2_with fail
  refine HX9.out.mono ?_
  rintro e w9 ⟨rfl, hI9, ht9⟩
  have hbel9 : Below w.heap.size w w9 := hbel8.trans (ht9.below hgw hbel8.size)
  rw [← HLL.out] at hI9
  obtain ⟨T, hT⟩ : ∃ T, T = crcT s f b.data.toList := ⟨_, rfl⟩
  have hI9' : IsInt w9 gn T := by rw [hT]; exact hI9
  have HTB := Hid.mk (crcT_lt (s := s) (n := b.size) (e := 21) (c := 1100) HV.out (Nat.lt_of_le_of_lt hfb (by decide)) (by omega) (by omega))
  rw [← HLL.out, ← crcT, ← hT] at HTB
  have HI9 := Hid.mk hI9'
  have HT := Hid.mk hT
  have hgn9 := hI9.lt
  clear hI9 hI9' ht9 hbel8 HX9 hT hgn6
  go_wp2_with fail
  refine (newInt_any p w9 (by omega)).mono ?_
  rintro e w10 ⟨rfl, hI10, hb10⟩
  have hIn10 := HI9.out.below hb10
  have hbel10 : Below w.heap.size w w10 := hbel9.trans (hb10.mono hbel9.size)
  have hsb := setBit_any w9.heap.size w9.heap.size p s w10 hI10 hI10.struct p1 HP.out (by omega)
  have HSB := Hid.mk hsb
  have HI10 := Hid.mk hI10
  have HIn10 := Hid.mk hIn10
  clear hsb hI10 hIn10 hb10 HI9
  go_wp2_with fail
  refine HSB.out.mono ?_
  rintro e w11 ⟨rfl, hI11, ht11⟩
  have hIn11 := HIn10.out.touch (by omega) HI10.out.struct ht11
  have hg3 : w.heap.size ≤ w9.heap.size := hbel9.size
  have hbel11 : Below w.heap.size w w11 := hbel10.trans (ht11.below hg3 hbel10.size)
  obtain ⟨g3, hg3E⟩ : ∃ g3, g3 = w9.heap.size := ⟨_, rfl⟩
  rw [← hg3E] at hI11 hgn9 hg3 ⊢
  have HI11 := Hid.mk hI11
  have HIn11 := Hid.mk hIn11
  clear hI11 hIn11 ht11 hbel10 hbel9 HSB HI10 HIn10 hg3E
  go_wp2_with fail
  go_loopw [54] (fun _ wr => ∃ n : Nat, IsInt wr gn n ∧ IsInt wr g3 (2 ^ s + p) ∧ Hid (n < 2 ^ 1100) ∧ Mul (2 ^ s + p) (n ^^^ T) ∧ Below w.heap.size w wr) (fun _ wr => valAt wr gn)
  case atStart => exact ⟨T, HIn11.out, HI11.out, HTB, by rw [Nat.xor_self]; exact Mul.zero _, hbel11⟩
  case round =>
    clear hbel11 HI11 HIn11 HTB
    obtain ⟨n, hIn, hI3, HNB, hmul, hbel⟩ := hrel
    have hbl := bitLen_any gn n wr hIn (up_lt (a := 1100) (c := 5000) HNB.out (by omega))
    have HBL := Hid.mk hbl
    have HIN := Hid.mk hIn
    have HI3 := Hid.mk hI3
    have HMUL := Hid.mk hmul
    have hgnr := hIn.lt
    have hg3r := hI3.lt
    clear hbl hIn hI3 hmul
    go_wp2_with fail
    refine HBL.out.mono ?_
    rintro e w1 ⟨L, rfl, hL1, hL2, hL3, hw1⟩
    subst hw1
    have HL1 := Hid.mk hL1
    have HL2 := Hid.mk hL2
    clear hL1 hL2 HBL
    by_cases hLs : s < L
    · have hLs' : (s : Int) < (L : Int) := by omega
      have hL3' : (L : Int) ≤ 6000 := by omega
      have hba : Below w1.heap.size w1 (w1.alloc (.cells #[.bool false, .slice none 0 0] 94)) := (Below.refl _ _).alloc (Nat.le_refl _) _
      have hbl := bitLen_any gn n _ (HIN.out.below hba) (up_lt (a := 1100) (c := 5000) HNB.out (by omega))
      have HBL := Hid.mk hbl
      have hL5 : L ≤ 1100 := len_le (c := 1100) HNB.out HL2.out
      clear hbl
      go_wp2_with fail
      refine HBL.out.mono ?_
      rintro e w2 ⟨L', rfl, hK1, hK2, hK3, hw2⟩
      have hLL := len_uniq HL1.out HL2.out hK1 hK2
      subst hLL
      have hs2 : isStruct w2 w1.heap.size := ⟨false, none, 0, 0, by rw [hw2]; exact heap_alloc_new w1 _⟩
      have hba2 : Below w1.heap.size w1 w2 := by rw [hw2]; exact hba
      have hI32 := HI3.out.below hba2
      have hIn2 := HIN.out.below hba2
      have hlsh := lsh_any w1.heap.size g3 (2 ^ s + p) (L - s - 1) w2 hI32 hs2 (up_lt (a := 22) (c := 5000) (d_lt s21 HP.out) (by omega)) (by omega)
      have HLS := Hid.mk hlsh
      have HIn2 := Hid.mk hIn2
      have HI32 := Hid.mk hI32
      have HS2 := Hid.mk hs2
      have hcast : (L : Int) - (s : Int) - 1 = ((L - s - 1 : Nat) : Int) := by omega
      have HCA := Hid.mk hcast
      clear hK1 hK2 hK3 hw2 hs2 hI32 hIn2 hlsh hba HBL hcast
      go_wp2_with fail
      rw [HCA.out]
      refine HLS.out.mono ?_
      rintro e w3 ⟨rfl, hI4, ht4⟩
      have hn4 : gn ≠ w1.heap.size := by omega
      have h34 : g3 ≠ w1.heap.size := by omega
      have hIn3 := HIn2.out.touch hn4 HS2.out ht4
      have hI33 := HI32.out.touch h34 HS2.out ht4
      have hbel3 : Below w.heap.size w w3 := (hbel.trans (hba2.mono hbel.size)).trans (ht4.below hbel.size (Nat.le_trans hbel.size hba2.size))
      have hx := xor_any gn gn w1.heap.size n _ w3 hIn3 hI4 hIn3.struct (up_lt (a := 1100) (c := 5000) HNB.out (by omega)) (sh_lt (a := 22) (c := 5000) (d_lt s21 HP.out) (by omega))
      have HX := Hid.mk hx
      have HI33 := Hid.mk hI33
      have HIn3 := Hid.mk hIn3
      clear hx hI4 ht4 hIn3 hI33 HLS HS2
      go_wp2_with fail
      refine HX.out.mono ?_
      rintro e w4 ⟨rfl, hI5, ht5⟩
      have hI35 := HI33.out.touch (by omega) HIn3.out.struct ht5
      have hbel4 : Below w.heap.size w w4 := hbel3.trans (ht5.below hgw hbel3.size)
      have hge : 2 ^ (L - 1) ≤ n := by rcases HL2.out with h | h; omega; exact h
      have hred := red_lt HL1.out hge hLs HP.out
      have hmul2 := red_mul (L := L) HMUL.out
      have hm1 := valAt_eq hI5
      have hm2 := valAt_eq HIN.out
      have HI5 := Hid.mk hI5
      have HI35 := Hid.mk hI35
      have HRED := Hid.mk hred
      have HGE := Hid.mk hge
      have HMU2 := Hid.mk hmul2
      have HM1 := Hid.mk hm1
      have HM2 := Hid.mk hm2
      clear hI5 hI35 hge hred hmul2 hm1 hm2 ht5 HX
      go_wp2_with fail
      go_roundw
      case rel => exact ⟨_, HI5.out, HI35.out, Hid.mk (up_lt (a := L - 1) (c := 1100) HRED.out (by omega)), HMU2.out, hbel4⟩
      case measure => rw [HM1.out, HM2.out]; exact Nat.lt_of_lt_of_le HRED.out HGE.out
    · have hLs' : (L : Int) ≤ (s : Int) := by omega
      have hns : n < 2 ^ s := up_lt HL1.out (by omega)
      have hfin := crc_uniq s p f n (by omega) HP.out HFF.out b.data.toList HR.out hns (by rw [← HT.out]; exact HMUL.out)
      subst hfin
      have HNS := Hid.mk hns
      clear hns
      go_wp2_with fail
      refine (newInt_any en w1 (by omega)).mono ?_
      rintro e w2 ⟨rfl, hI2, hb2⟩
      have hIn2 := HIN.out.below hb2
      have hbel2 : Below w.heap.size w w2 := hbel.trans (hb2.mono hbel.size)
      have hx := xor_any gn gn w1.heap.size _ en w2 hIn2 hI2 hIn2.struct (up_lt (a := s) (c := 5000) HNS.out (by omega)) (up_lt (a := s) (c := 5000) HEE.out (by omega))
      have HX := Hid.mk hx
      clear hx hI2 hIn2 hb2
      go_wp2_with fail
      refine HX.out.mono ?_
      rintro e w3 ⟨rfl, hI3, ht3⟩
      have hbel3 : Below w.heap.size w w3 := hbel2.trans (ht3.below hgw hbel2.size)
      have hVb : crcR s p f b.data.toList ^^^ en < 2 ^ s := Nat.xor_lt_two_pow HNS.out HEE.out
      obtain ⟨V, hV⟩ : ∃ V, V = crcR s p f b.data.toList ^^^ en := ⟨_, rfl⟩
      rw [← hV] at hI3 hVb
      have HVE := Hid.mk hV
      have hi64 := int64_any gn V w3 hI3 (up_lt (a := s) (c := 62) hVb (by omega))
      have HI64 := Hid.mk hi64
      have hro := fun W hW => rowOf_fit V s W hW (by omega) hVb
      have HRO := Hid.mk hro
      clear hi64 hro hI3 ht3 hbel2 HX hV hVb
      go_wp2_with fail
      refine HI64.out.mono ?_
      rintro e w4 ⟨rfl, hw4⟩
      subst hw4
      go_wp2_with fail
      refine (HRO.out _ (Bw.cell_kept hbel3 HH.out)).mono ?_
      rintro e w5 ⟨rfl, hb5⟩
      go_wp2_with fail
      go_ret
      exact ⟨by rw [← HVE.out]; try rfl, hbel3.trans (hb5.mono hbel3.size)⟩
end Ww
end Go.Proofs.YtjeogdfejnoanacGreatDoor
