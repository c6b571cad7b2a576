/- omnibusbig's whole numbers, with signs, wherever they lie: give, SetInt64, NewInt, Set and Cmp. -/
import Derived.Test.YtgknolliicachaaDoorWordsDiv
import Derived.Test.YtgknolliicachaaDoorTchKit
import Derived.Lib.QuietBelow
namespace Go.Proofs.YtgknolliicachaaDoor
open Go.ChangeShapes Go.WideShapes Go.ChangeAt Go.RowKit Go.Sort
namespace Ww
open Wm
open Bw (Tch bl2 cell_kept)
/-- a block that is known whole -/
def BlkAt (w : World) (g : Nat) (cs : List Value) (T : TypeId) : Prop := w.heap[g]? = some (.cells cs.toArray T (0, 0))
def NoW (cs : List Value) : Prop := ∀ v ∈ cs, ∀ x, v ≠ .int .u32 x
theorem BlkAt.lt {w : World} {g : Nat} {cs : List Value} {T : TypeId} (h : BlkAt w g cs T) : g < w.heap.size := by
  rcases Nat.lt_or_ge g w.heap.size with h' | h'
  · exact h'
  · unfold BlkAt at h; rw [Array.getElem?_eq_none h'] at h; cases h
theorem BlkAt.kept {w w' : World} {g : Nat} {cs : List Value} {T : TypeId} (h : BlkAt w g cs T) (hb : Below w.heap.size w w') : BlkAt w' g cs T := by
  unfold BlkAt; rw [hb.block g h.lt]; exact h
theorem BlkAt.tch {gs : List Nat} {w w' : World} {g : Nat} {cs : List Value} {T : TypeId} (h : BlkAt w g cs T) (ht : Tch gs w w') (hg : g ∉ gs) : BlkAt w' g cs T := by
  unfold BlkAt; rw [ht.block g h.lt hg]; exact h
theorem BlkAt.cell {w : World} {g : Nat} {cs : List Value} {T : TypeId} (h : BlkAt w g cs T) {i : Nat} {v : Value} (hi : cs[i]? = some v) : w.cell? ⟨g, i, none⟩ = some v := by
  rw [cell_of_row w g i _ _ _ h]; simpa using hi
theorem BlkAt.free {w : World} {g : Nat} {cs : List Value} {T : TypeId} (h : BlkAt w g cs T) (i : Nat) : w.frozen? ⟨g, i, none⟩ = false := frozen_of_row w g i _ _ h
theorem BlkAt.set {w : World} {g : Nat} {cs : List Value} {T : TypeId} (h : BlkAt w g cs T) (i : Nat) (v : Value) : BlkAt (w.setCell ⟨g, i, none⟩ v) g (cs.set i v) T := by
  have := heap_setCell_same w g i _ _ v h
  unfold BlkAt
  rw [this, List.setIfInBounds_toArray]
/-- words lie in no such block -/
theorem IsW.tch {w w' : World} {v : Value} {xs : List Nat} {g : Nat} {cs : List Value} {T : TypeId} (h : IsW w v xs) (hb : BlkAt w g cs T) (hn : NoW cs) (ht : Tch [g] w w') : IsW w' v xs := by
  obtain ⟨a, c, h1, h2, h3, h4, h5, h6⟩ := h
  refine ⟨a, c, h1, h2, h3, h4, fun x hx i hi => ?_, h6⟩
  have hc := h5 x hx i hi
  have hne : (x.add i).block ≠ g := by
    intro e
    have hc' := hc
    generalize x.add i = p at hc' e
    obtain ⟨k, o, t⟩ := p
    simp only at e
    subst e
    unfold World.cell? at hc'
    rw [show w.heap[k]? = some (.cells cs.toArray T (0, 0)) from hb] at hc'
    simp only at hc'
    have hm : Value.int .u32 (xs.getD i 0 : Int) ∈ cs := by
      have h7 : t = none ∧ cs[o]? = some (.int .u32 (xs.getD i 0 : Int)) := by simpa using hc'
      exact List.mem_of_getElem? h7.2
    exact hn _ hm _ rfl
  have hlt : (x.add i).block < w.heap.size := by
    rcases Nat.lt_or_ge (x.add i).block w.heap.size with h' | h'
    · exact h'
    · unfold World.cell? at hc
      rw [Array.getElem?_eq_none h'] at hc
      simp at hc
  have hblk := ht.block (x.add i).block hlt (by simpa using hne)
  rw [World.cell?_of_block (w := w) hblk]
  exact hc
/-- the whole number r lies at offset o of block g -/
def ZAt (w : World) (g o : Nat) (r : Int) : Prop := ∃ va xs, w.cell? ⟨g, o, none⟩ = some (.bool (decide (r < 0))) ∧ w.cell? ⟨g, o + 1, none⟩ = some va ∧ IsW w va xs ∧ trimW xs ∧ valW xs = r.natAbs
theorem ZAt.kept {w w' : World} {g o : Nat} {r : Int} (h : ZAt w g o r) (hb : Below w.heap.size w w') : ZAt w' g o r := by
  obtain ⟨va, xs, h1, h2, h3, h4, h5⟩ := h
  exact ⟨va, xs, cell_kept hb h1, cell_kept hb h2, h3.below hb, h4, h5⟩
theorem cell_tch {gs : List Nat} {w w' : World} {a : Addr} {v : Value} (h : w.cell? a = some v) (ht : Tch gs w w') (hg : a.block ∉ gs) : w'.cell? a = some v := by
  have hlt : a.block < w.heap.size := by
    rcases Nat.lt_or_ge a.block w.heap.size with h' | h'
    · exact h'
    · unfold World.cell? at h
      rw [Array.getElem?_eq_none h'] at h
      simp at h
  rw [World.cell?_of_block (w := w) (ht.block a.block hlt hg)]
  exact h
theorem ZAt.tch {w w' : World} {g o : Nat} {r : Int} (h : ZAt w g o r) {k : Nat} {cs : List Value} {T : TypeId} (hb : BlkAt w k cs T) (hn : NoW cs) (ht : Tch [k] w w') (hne : g ≠ k) : ZAt w' g o r := by
  obtain ⟨va, xs, h1, h2, h3, h4, h5⟩ := h
  exact ⟨va, xs, cell_tch h1 ht (by simpa using hne), cell_tch h2 ht (by simpa using hne), h3.tch hb hn ht, h4, h5⟩
/-- a number of its own in a new variable -/
def zvC : List Value := [.bool false, .slice none 0 0]
theorem zv_new (w : World) : BlkAt (w.alloc (.cells #[.bool false, .slice none 0 0] 68)) w.heap.size zvC 68 := heap_alloc_new w _
def sliceB (v : Value) : Prop := ∃ a l c, v = .slice a l c
theorem IsW.sliceB {w : World} {v : Value} {xs : List Nat} (h : IsW w v xs) : sliceB v := by
  obtain ⟨a, c, h1, _⟩ := h
  exact ⟨a, _, c, h1⟩
/-- a variable of an Int -/
def IntV (cs : List Value) : Prop := ∃ b a l c, cs = [.bool b, .slice a l c]
theorem IntV.noW {cs : List Value} (h : IntV cs) : NoW cs := by
  obtain ⟨b, a, l, c, rfl⟩ := h
  intro v hv x e
  subst e
  simp at hv
theorem zv_int : IntV zvC := ⟨false, none, 0, 0, rfl⟩
/-- what a method of a number leaves: the number in its variable, all else as it was -/
def OutZ (w w' : World) (g o : Nat) (cs : List Value) (T : TypeId) (r : Int) : Prop :=
  Tch [g] w w' ∧ ∃ va xs, IsW w' va xs ∧ trimW xs ∧ valW xs = r.natAbs ∧ BlkAt w' g ((cs.set (o + 1) va).set o (.bool (decide (r < 0)))) T
theorem OutZ.z {w w' : World} {g o : Nat} {cs : List Value} {T : TypeId} {r : Int} (h : OutZ w w' g o cs T r) (hl : o + 1 < cs.length) : ZAt w' g o r := by
  obtain ⟨_, va, xs, h1, h2, h3, h4⟩ := h
  refine ⟨va, xs, h4.cell ?_, h4.cell ?_, h1, h2, h3⟩
  · rw [List.getElem?_set_self (by rw [List.length_set]; omega)]
  · rw [List.getElem?_set_ne (by omega), List.getElem?_set_self (by omega)]
theorem OutZ.int {w w' : World} {g : Nat} {cs : List Value} {T : TypeId} {r : Int} (h : OutZ w w' g 0 cs T r) (hi : IntV cs) : ZAt w' g 0 r ∧ ∃ cs', BlkAt w' g cs' T ∧ IntV cs' := by
  obtain ⟨b, a, l, c, rfl⟩ := hi
  refine ⟨h.z (by simp), ?_⟩
  obtain ⟨_, va, xs, h1, h2, h3, h4⟩ := h
  obtain ⟨a', l', c', rfl⟩ := h1.sliceB
  exact ⟨_, h4, _, _, _, _, rfl⟩
theorem OutZ.below {w w0 w' : World} {g o : Nat} {cs : List Value} {T : TypeId} {r : Int} (hb : Below w.heap.size w w0) (h : OutZ w0 w' g o cs T r) (hg : w.heap.size ≤ g) : Below w.heap.size w w' :=
  Tch.below hb h.1 (by simpa using hg) (Nat.le_refl _)
theorem OutZ.pre {w w0 w' : World} {g o : Nat} {cs : List Value} {T : TypeId} {r : Int} (h : OutZ w0 w' g o cs T r) (hb : Below w.heap.size w w0) : OutZ w w' g o cs T r :=
  ⟨(Tch.of hb).trans h.1, h.2⟩
theorem trim_pos {xs : List Nat} {n : Nat} (ht : trimW xs) (hok : okW xs) (hv : valW xs = n) : (0 < xs.length ↔ 0 < n) := by
  constructor
  · intro h
    rcases ht with rfl | h1
    · simp at h
    · have hk : xs.length - 1 < xs.length := by omega
      have := val_split xs (xs.length - 1) hk
      have h2 : 1 ≤ xs.getD (xs.length - 1) 0 := by omega
      have h3 : 0 < 2 ^ (32 * (xs.length - 1)) := Nat.two_pow_pos _
      have h4 : 0 < 2 ^ (32 * (xs.length - 1)) * (xs.getD (xs.length - 1) 0 + 4294967296 * valW (xs.drop (xs.length - 1 + 1))) := Nat.mul_pos h3 (by omega)
      omega
  · intro h
    rcases Nat.eq_zero_or_pos xs.length with h1 | h1
    · have : xs = [] := List.eq_nil_of_length_eq_zero h1
      subst this
      simp [valW] at hv
      omega
    · exact h1
set_option maxHeartbeats 4000000 in
set_option maxRecDepth 100000 in
theorem give_z (g o : Nat) (cs : List Value) (T : TypeId) (nb : Bool) (va : Value) (xs : List Nat) (r : Int) (w : World) (hB : BlkAt w g cs T) (hn : NoW cs) (h0 : ∃ b, cs[o]? = some (.bool b)) (h1 : ∃ a l c, cs[o + 1]? = some (.slice a l c)) (hW : IsW w va xs) (ht : trimW xs) (hv : valW xs = r.natAbs) (hnb : r ≠ 0 → nb = decide (r < 0)) :
    Calls Tryd.prog 73 #[.pointer (some ⟨g, o, none⟩), .bool nb, va] w fun e w' => e = .returned (.pointer (some ⟨g, o, none⟩)) ∧ OutZ w w' g o cs T r := by
  obtain ⟨b, h0⟩ := h0
  obtain ⟨a1, l1, c1, h1⟩ := h1
  have HW := Hid.mk hW
  have hok : okW xs := by obtain ⟨_, _, _, _, _, _, _, h⟩ := hW; exact h
  have hpos := trim_pos ht hok hv
  obtain ⟨a, ca, rfl, hr⟩ := hW
  have hc0 := hB.cell h0
  have hc1 := hB.cell h1
  have hf0 := hB.free o
  have hf1 := hB.free (o + 1)
  have hb1 := hB.set (o + 1) (.slice a xs.length ca)
  have hres : (nb && decide (0 < xs.length)) = decide (r < 0) := by
    by_cases hz : r = 0
    · subst hz
      have : ¬ 0 < xs.length := by rw [hpos]; simp
      rw [decide_eq_false this]
      simp
    · rw [hnb hz, decide_eq_true (hpos.2 (by omega))]
      simp
  have hb2 := hb1.set o (.bool (decide (r < 0)))
  have htt : Tch [g] w ((w.setCell ⟨g, o + 1, none⟩ (.slice a xs.length ca)).setCell ⟨g, o, none⟩ (.bool (decide (r < 0)))) := ((Tch.refl [g] w).setK (by simp) _ _).setK (by simp) _ _
  have HST := Hid.mk hb2
  have HTT := Hid.mk htt
  have HT := Hid.mk ht
  have HV := Hid.mk hv
  have HB := Hid.mk hB
  have HN := Hid.mk hn
  have hc0' : (w.setCell ⟨g, o + 1, none⟩ (.slice a xs.length ca)).cell? ⟨g, o, none⟩ = some (.bool b) := hb1.cell (by rw [List.getElem?_set_ne (by omega)]; exact h0)
  have hf0' := hb1.free o
  obtain ⟨nA, hnA⟩ : ∃ n, n = xs.length := ⟨_, rfl⟩
  generalize hRd : decide (r < 0) = R at *
  have HRD := Hid.mk hRd
  clear hRd
  rw [← hnA] at hc0' hf0' hres HST HTT ⊢
  have HW2 : Hid (IsW w (.slice a nA ca) xs) := Hid.mk (by rw [hnA]; exact HW.out)
  have HRES := Hid.mk hres
  clear hB hn hr hb1 hb2 htt ht hv h0 h1 hpos hnb hok hnA HW hres
  cases nb with
  | false =>
    have hR : R = false := by have := HRES.out; simpa using this.symm
    subst hR
    go_enter Tryd.func73, Tryd.ntmps73
    go_wp2_with fail
    go_ret
    exact ⟨rfl, HTT.out, _, xs, HW2.out.tch HB.out HN.out HTT.out, HT.out, HV.out, by rw [HRD.out]; exact HST.out⟩
  | true =>
    by_cases hA : 0 < nA
    · have hA' : (0 : Int) < (nA : Int) := by omega
      have hR : R = true := by have := HRES.out; rw [decide_eq_true hA] at this; exact this.symm
      subst hR
      go_enter Tryd.func73, Tryd.ntmps73
      go_wp2_with fail
      go_ret
      exact ⟨rfl, HTT.out, _, xs, HW2.out.tch HB.out HN.out HTT.out, HT.out, HV.out, by rw [HRD.out]; exact HST.out⟩
    · have hA' : nA = 0 := by omega
      subst hA'
      have hR : R = false := by have := HRES.out; simpa using this.symm
      subst hR
      go_enter Tryd.func73, Tryd.ntmps73
      go_wp2_with fail
      go_ret
      exact ⟨rfl, HTT.out, _, xs, HW2.out.tch HB.out HN.out HTT.out, HT.out, HV.out, by rw [HRD.out]; exact HST.out⟩
set_option maxHeartbeats 4000000 in
set_option maxRecDepth 100000 in
theorem setInt64_z (g o : Nat) (cs : List Value) (T : TypeId) (r : Int) (w : World) (hB : BlkAt w g cs T) (hn : NoW cs) (h0 : ∃ b, cs[o]? = some (.bool b)) (h1 : ∃ a l c, cs[o + 1]? = some (.slice a l c)) (hr1 : -4611686018427387903 ≤ r) (hr2 : r ≤ 4611686018427387903) :
    Calls Tryd.prog 72 #[.pointer (some ⟨g, o, none⟩), .int .i64 r] w fun e w' => e = .returned (.pointer (some ⟨g, o, none⟩)) ∧ OutZ w w' g o cs T r := by
  have HB := Hid.mk hB
  have HN := Hid.mk hn
  have HH0 := Hid.mk h0
  have HH1 := Hid.mk h1
  have hW := fun W => words_le r.natAbs W (by omega)
  obtain ⟨U, hU⟩ : ∃ U : Int, U = ((r.natAbs : Nat) : Int) := ⟨_, rfl⟩
  rw [← hU] at hW
  have HW := Hid.mk hW
  clear hB hn h0 h1 hW
  by_cases hneg : r < 0
  · have e1 : IntKind.u64.wrap r = r + 18446744073709551616 := by rw [IntKind.wrap_u64]; omega
    have e2 : IntKind.u64.wrap (-(r + 18446744073709551616)) = U := by rw [IntKind.wrap_u64]; omega
    have HNB : Hid (r ≠ 0 → true = decide (r < 0)) := Hid.mk (fun _ => (decide_eq_true hneg).symm)
    clear hU
    go_enter Tryd.func72, Tryd.ntmps72
    go_wp2_with fail
    refine (HW.out _).mono ?_
    rintro e w1 ⟨v', ys, rfl, hy, hyv, hyt, hyl, hb1⟩
    have HG := Hid.mk (give_z g o cs T true v' ys r w1 (HB.out.kept hb1) HN.out HH0.out HH1.out hy hyt hyv HNB.out)
    have HB1 := Hid.mk hb1
    clear hy hyv hyt hyl hb1
    go_wp2_with fail
    with_reducible refine HG.out.mono ?_
    rintro e w2 ⟨rfl, hO⟩
    have HO := Hid.mk hO
    clear hO
    go_wp2_with fail
    go_ret
    exact ⟨rfl, HO.out.pre HB1.out⟩
  · have hUr : U = r := by omega
    rw [hUr] at HW
    have HNB : Hid (r ≠ 0 → false = decide (r < 0)) := Hid.mk (fun _ => (decide_eq_false hneg).symm)
    have hneg' : 0 ≤ r := by omega
    have hd : decide (r < 0) = false := decide_eq_false hneg
    clear hU hUr
    go_enter Tryd.func72, Tryd.ntmps72
    go_wp2_with fail
    refine (HW.out _).mono ?_
    rintro e w1 ⟨v', ys, rfl, hy, hyv, hyt, hyl, hb1⟩
    have HG := Hid.mk (give_z g o cs T false v' ys r w1 (HB.out.kept hb1) HN.out HH0.out HH1.out hy hyt hyv HNB.out)
    have HB1 := Hid.mk hb1
    clear hy hyv hyt hyl hb1
    go_wp2_with fail
    with_reducible refine HG.out.mono ?_
    rintro e w2 ⟨rfl, hO⟩
    have HO := Hid.mk hO
    clear hO
    go_wp2_with fail
    go_ret
    exact ⟨rfl, HO.out.pre HB1.out⟩
set_option maxHeartbeats 4000000 in
set_option maxRecDepth 100000 in
theorem newInt_z (r : Int) (w : World) (hr1 : -4611686018427387903 ≤ r) (hr2 : r ≤ 4611686018427387903) :
    Calls Tryd.prog 50 #[.int .i64 r] w fun e w' => e = .returned (.pointer (some ⟨w.heap.size, 0, none⟩)) ∧ ZAt w' w.heap.size 0 r ∧ (∃ cs, BlkAt w' w.heap.size cs 68 ∧ IntV cs) ∧ Below w.heap.size w w' := by
  have hz := zv_new w
  have HS := Hid.mk (setInt64_z w.heap.size 0 zvC 68 r _ hz zv_int.noW ⟨_, rfl⟩ ⟨_, _, _, rfl⟩ hr1 hr2)
  have HB := Hid.mk (show Below w.heap.size w (w.alloc (.cells #[.bool false, .slice none 0 0] 68)) from (Below.refl _ _).alloc (Nat.le_refl _) _)
  clear hz
  go_enter Tryd.func50, Tryd.ntmps50
  go_wp2_with fail
  refine HS.out.mono ?_
  rintro e w1 ⟨rfl, hO⟩
  have HO := Hid.mk hO
  clear hO
  go_wp2_with fail
  go_ret
  exact ⟨rfl, (HO.out.int zv_int).1, (HO.out.int zv_int).2, HO.out.below HB.out (Nat.le_refl _)⟩
end Ww
end Go.Proofs.YtgknolliicachaaDoor
