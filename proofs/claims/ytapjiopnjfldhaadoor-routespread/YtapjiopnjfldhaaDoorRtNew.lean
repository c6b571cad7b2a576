/- What route.New answers. -/
import Derived.Test.YtapjiopnjfldhaaDoorA7
namespace Go.Proofs.YtapjiopnjfldhaaDoor
open Go.ChangeShapes Go.WideShapes Go.ChangeAt Go.RowKit
namespace Bw
open Bm
set_option linter.unusedVariables false
/-- so many -1 -/
def neg1 (n : Nat) : List Int := List.replicate n (-1)
theorem neg1_add (n : Nat) : numC (neg1 n) ++ [Value.int .i64 (-1)] = numC (neg1 (n + 1)) := by
  unfold neg1
  rw [List.replicate_succ', numC_append]
  rfl
theorem neg1_len (n : Nat) : (neg1 n).length = n := by simp [neg1]
theorem new_res (tmps : Array Value) (w : World) (g : Nat) (cs : Array Value) (x : Value) (hp : tmps.getD 2 undef = .pointer (some ⟨g, 0, none⟩)) (hx : tmps.getD 3 undef = x) (h : w.heap[g]? = some (.cells cs 25 (0, 0))) (hs : cs.size = 2) :
    (results Tryd.f8 tmps).run Tryd.prog w = .ok (.tuple #[.agg cs, x]) w := by
  have hl := run_loadVar_row (P := Tryd.prog) w g 25 25 cs (0, 0) _ h Tryd.underlying25 rfl (by rw [ga_i, hs])
  have hp' : tmps[2]?.getD undef = .pointer (some ⟨g, 0, none⟩) := by simpa using hp
  have hx' : tmps[3]?.getD undef = x := by simpa using hx
  simp [results, hp', hx', asAddr, hl]
theorem one_int (w : World) (v : Value) (t : TypeId) : ∀ q u, ([v] : List Value)[q]? = some u → (w.alloc (.cells #[v] t)).cell? (Addr.add ⟨w.heap.size, 0, none⟩ q) = some u := by
  intro q u hq
  match q, hq with
  | 0, hq => (simp at hq; subst hq; simp [Addr.add])
theorem own_slice {w : World} {base : Nat} {e : TypeId} {size : Nat} {v : Value} {n : Nat} {xs : List Value} (h : w.ownsRow base e size v n xs) (h0 : 0 < n) : ∃ g c, v = .slice (some ⟨g, 0, none⟩) n c ∧ base ≤ g ∧ g < w.heap.size := by
  rcases h.2 with ⟨h1, h2⟩ | ⟨g, c, cur, h1, h2, h3, _⟩
  · omega
  · exact ⟨g, c, h1, h2, (Array.getElem?_eq_some_iff.1 h3).1⟩
def sliceAt : Value → Option Addr
  | .slice a _ _ => a
  | _ => none
theorem far_own {w : World} {base B : Nat} {e : TypeId} {size : Nat} {v : Value} {n : Nat} {xs : List Value} (h : w.ownsRow base e size v n xs) (hB : B ≤ base) : FarB B (sliceAt v) := by
  intro x hx
  rcases h.2 with ⟨h1, h2⟩ | ⟨g, c, cur, h1, h2, _⟩
  · subst h1; cases hx
  · subst h1; cases hx; exact Nat.le_trans hB h2
theorem rts_far {w : World} {a : Option Addr} {n c : Nat} {l : List Rt} (h : IsRts w a n c l) {B : Nat} (hf : FarB B a) {g : Nat} (hg : g < B) (i : Nat) (v : Value) : IsRts (w.setCell ⟨g, i, none⟩ v) a n c l := by
  refine ⟨h.len, h.le, h.max, h.none, fun x hx j hj => ?_⟩
  have hc := h.cell x hx j hj
  have hx1 := hf x hx
  have hb : (x.add (j * 7)).block = x.block := by unfold Addr.add; split <;> rfl
  have hk : ∀ p : Addr, p.block = x.block → ∀ u, w.cell? p = some u → (w.setCell ⟨g, i, none⟩ v).cell? p = some u := by
    intro p hp u hu
    rw [← hu]
    unfold World.cell?
    rw [heap_setCell_other w ⟨g, i, none⟩ p.block v (by rw [hp]; show x.block ≠ g; omega)]
  refine ⟨hk _ ?_ _ hc.c0, hk _ ?_ _ hc.c1, hk _ ?_ _ hc.c2, hk _ ?_ _ hc.c3, hk _ ?_ _ hc.c4, hk _ ?_ _ hc.c5, hk _ ?_ _ hc.c6⟩ <;> exact hb
theorem nums_far {w : World} {a : Option Addr} {n c : Nat} {l : List Int} (h : IsNums w a n c l) {B : Nat} (hf : FarB B a) {g : Nat} (hg : g < B) (i : Nat) (v : Value) : IsNums (w.setCell ⟨g, i, none⟩ v) a n c l := by
  refine ⟨h.len, h.le, h.max, h.none, fun x hx j hj => ?_⟩
  have hc := h.cell x hx j hj
  have hx1 := hf x hx
  have hb : (x.add j).block = x.block := by unfold Addr.add; split <;> rfl
  rw [← hc]
  unfold World.cell?
  rw [heap_setCell_other w ⟨g, i, none⟩ (x.add j).block v (by rw [hb]; show x.block ≠ g; omega)]
theorem owns_setB {w : World} {base : Nat} {e : TypeId} {size : Nat} {v : Value} {n : Nat} {xs : List Value} (h : w.ownsRow base e size v n xs) {a : Addr} (ha : a.block < base) (u : Value) : (w.setCell a u).ownsRow base e size v n xs := ownsRow_setCell_below h ha u
set_option maxHeartbeats 8000000 in
set_option maxRecDepth 100000 in
theorem new_any (a : Option Addr) (n c : Nat) (rs : List Rt) (w : World) (hR : IsRts w a n c rs) (hL : LastsAt w) (hn : n ≤ 3000000000000) :
    Calls Tryd.prog 8 #[.slice a n c] w fun e w' => Below w.heap.size w w' ∧
      ((chkG rs (neg1 n) ≠ 0 ∧ e = .returned (.tuple #[gaV none 0 0 none 0 0, .int .i64 (chkG rs (neg1 n))])) ∨
       (chkG rs (neg1 n) = 0 ∧ ∃ a' c' b' d', e = .returned (.tuple #[gaV a' n c' b' n d', .int .i64 0]) ∧ IsRts w' a' n c' rs ∧ IsNums w' b' n d' (neg1 n))) := by
  obtain ⟨i0, hi, hz0, hz1, hz2⟩ := info_parts info_intF
  have hb0 := awB w (.cells #[.slice none 0 0, .slice none 0 0] 25)
  have hb1 := awB (w.alloc (.cells #[.slice none 0 0, .slice none 0 0] 25)) (.cells #[.slice a n c, .slice none 0 0] 25)
  have HB := Hid.mk (bl2 hb0 hb1)
  have HZ := Hid.mk ((Row2.new w (.slice none 0 0) (.slice none 0 0)).kept hb1)
  have HG := Hid.mk (Row2.new (w.alloc (.cells #[.slice none 0 0, .slice none 0 0] 25)) (.slice a n c) (.slice none 0 0))
  have hs1 : (w.alloc (.cells #[.slice none 0 0, .slice none 0 0] 25)).heap.size = w.heap.size + 1 := by simp
  rw [hs1] at HG
  have HRR := Hid.mk hR
  have HLL := Hid.mk hL
  have HN := Hid.mk hn
  have hn63 : (n : Int) ≤ 3000000000000 := by omega
  have hsz : ((w.alloc (.cells #[.slice none 0 0, .slice none 0 0] 25)).alloc (.cells #[.slice a n c, .slice none 0 0] 25)).heap.size = w.heap.size + 2 := by simp
  have HS := Hid.mk hsz
  obtain ⟨E, hE⟩ : ∃ E, E = chkG rs (neg1 n) := ⟨_, rfl⟩
  rw [← hE]
  have HEE := Hid.mk hE
  clear hb0 hb1 hR hL hn hsz hs1 hE
  go_enter Tryd.func8, Tryd.ntmps8
  go_wp2_with fail
  generalize (w.alloc (.cells #[.slice none 0 0, .slice none 0 0] 25)).alloc (.cells #[.slice a n c, .slice none 0 0] 25) = W0 at *
  go_loopw [10] (fun i wr => ∃ (k : Nat) (v : Value), k ≤ n ∧ i = .int .i64 k ∧ Hid (Row2 wr (w.heap.size + 1) (.slice a n c) v) ∧ Hid (Row2 wr w.heap.size (.slice none 0 0) (.slice none 0 0)) ∧ Hid (wr.ownsRow (w.heap.size + 2) 3 1 v k (numC (neg1 k))) ∧ Hid (w.heap.size + 2 ≤ wr.heap.size) ∧ Hid (Below w.heap.size w wr)) (fun i _ => n - (intOf i).toNat)
  case atStart => exact ⟨0, _, Nat.zero_le _, rfl, HG, HZ, Hid.mk (World.ownsRow_nil _ _ _ _), Hid.mk (by rw [HS.out]; exact Nat.le_refl _), HB⟩
  case round =>
    clear HB HZ HG
    obtain ⟨k, v, hk, rfl, HG, HZ, HO, HS2, HB⟩ := hrel
    by_cases hlt : k < n
    · have hlt' : (k : Int) < (n : Int) := by omega
      obtain ⟨k0, k1⟩ := HG.out.cells
      have hba := awB wr (.cells #[.int .i64 (-1)] 3)
      have HBA := Hid.mk hba
      obtain ⟨j0, j1⟩ := (HG.out.kept hba).cells
      clear hba
      go_wp2_with (
         at_builtin
         refine wpList_append_own _ rfl (.tmp 13) (.tmp 14) 23 rfl (w.heap.size + 2) 3 i0 (.int .i64 0) 1 8 Tryd.underlying23 hi hz0 hz1 hz2 rfl (by decide) _ _ _ rfl (HO.out.alloc _) ⟨wr.heap.size, 0, none⟩ 1 1 [Value.int .i64 (-1)] rfl rfl (one_int wr _ _) (by intro u hu; simp at hu; subst hu; rfl) (by have := HN.out; unfold maxLen; omega) (by have := HN.out; omega) (by have := HS2.out; simp; omega) ?_
         intro v6 w6 hown6 hgrow6 _
         have hB6 : Below (w.heap.size + 2) wr w6 := Below.grown ((Below.refl _ wr).alloc HS2.out _) hgrow6 (by have := HS2.out; simp; omega) (fun q hq => (HO.out.lt q hq).1)
         have HG6 := Hid.mk (HG.out.keptB hB6 (by omega))
         have HZ6 := Hid.mk (HZ.out.keptB hB6 (by omega))
         have HB6 : Hid (Below w.heap.size w w6) := Hid.mk (HB.out.trans ⟨hB6.os, hB6.tape, hB6.output, hB6.size, fun q hq => hB6.block q (by omega)⟩)
         have HS6 : Hid (w.heap.size + 2 ≤ w6.heap.size) := Hid.mk (Nat.le_trans HS2.out hB6.size)
         rw [neg1_add] at hown6
         obtain ⟨g6, c6, rfl, -, -⟩ := own_slice hown6 (Nat.succ_pos _)
         have HO6 := Hid.mk hown6
         have c1 := HG6.out.cells.2
         have f1 := HG6.out.frozen 1
         clear hown6 hgrow6 hB6)
      have HG7 := Hid.mk (HG6.out.set1 (.slice (some ⟨g6, 0, none⟩) (k + 1) c6))
      have HZ7 := Hid.mk (HZ6.out.far (p := ⟨w.heap.size + 1, 1, none⟩) (show w.heap.size ≠ w.heap.size + 1 by omega) (.slice (some ⟨g6, 0, none⟩) (k + 1) c6))
      have HO7 := Hid.mk (owns_setB HO6.out (a := ⟨w.heap.size + 1, 1, none⟩) (show w.heap.size + 1 < w.heap.size + 2 by omega) (.slice (some ⟨g6, 0, none⟩) (k + 1) c6))
      have HB7 := Hid.mk (HB6.out.setCell (p := ⟨w.heap.size + 1, 1, none⟩) (show w.heap.size ≤ w.heap.size + 1 by omega) (.slice (some ⟨g6, 0, none⟩) (k + 1) c6))
      go_wp2_with fail
      go_roundw
      case rel => exact ⟨k + 1, _, by omega, by go_num, HG7, HZ7, HO7, by simpa using HS6, HB7⟩
      case measure => simp [intOf]; omega
    · obtain rfl : k = n := by omega
      have HFN : Hid (FarB (w.heap.size + 2) (sliceAt v)) := Hid.mk (far_own HO.out (Nat.le_refl _))
      obtain ⟨b', d', hv, hN⟩ := nums_own (l := neg1 k) (by rw [neg1_len]; exact HO.out)
      rw [neg1_len] at hv hN
      subst hv
      obtain ⟨k0, k1⟩ := HG.out.cells
      have HNN := Hid.mk hN
      have HCK := Hid.mk (gcheck_any a k c b' k d' rs (neg1 k) wr (HRR.out.kept HB.out) hN (HLL.out.kept HB.out))
      rw [← HEE.out] at HCK
      unfold gaV at HCK
      clear hN HO
      go_wp2_with fail
      refine HCK.out.mono ?_
      rintro e w1 ⟨rfl, hb1⟩
      have HB1 := Hid.mk (bl2 HB.out hb1)
      have HG1 := Hid.mk (HG.out.kept hb1)
      have HZ1 := Hid.mk (HZ.out.kept hb1)
      have HN1 := Hid.mk (HNN.out.kept hb1)
      have HS1 : Hid (w.heap.size + 2 ≤ w1.heap.size) := Hid.mk (Nat.le_trans HS2.out hb1.size)
      clear hb1 k0 k1 HCK HB HG HZ HNN
      by_cases hz : E = 0
      · subst hz
        have h20 : k ≤ 20 := by
          have h := HEE.out
          unfold chkG at h
          by_cases hh : 20 < rs.length
          · rw [if_pos hh] at h; omega
          · have := HRR.out.len; omega
        have HCP := Hid.mk (copiedR_any a k c rs w1 (HRR.out.kept HB1.out) (by omega))
        clear h20
        go_wp2_with fail
        refine HCP.out.mono ?_
        rintro e w2 ⟨v2, rfl, ho2, hb2⟩
        have HFR : Hid (FarB (w.heap.size + 2) (sliceAt v2)) := Hid.mk (far_own ho2 HS1.out)
        obtain ⟨a', c', hv, hR2⟩ := rts_of (l := rs) (by rw [HRR.out.len]; exact ho2)
        rw [HRR.out.len] at hv hR2
        subst hv
        have HR2 := Hid.mk hR2
        have HB2 := Hid.mk (bl2 HB1.out hb2)
        have HG2 := Hid.mk (HG1.out.kept hb2)
        have HZ2 := Hid.mk (HZ1.out.kept hb2)
        have HN2 := Hid.mk (HN1.out.kept hb2)
        obtain ⟨g0, g1⟩ := HG2.out.cells
        have f0 := HG2.out.frozen 0
        have HG3 := Hid.mk (HG2.out.set0 (.slice a' k c'))
        have HZ3 := Hid.mk (HZ2.out.far (p := ⟨w.heap.size + 1, 0, none⟩) (show w.heap.size ≠ w.heap.size + 1 by omega) (.slice a' k c'))
        clear ho2 hb2 hR2 HCP HG1 HZ1 HN1
        have HB3 := Hid.mk (HB2.out.setCell (p := ⟨w.heap.size + 1, 0, none⟩) (show w.heap.size ≤ w.heap.size + 1 by omega) (.slice a' k c'))
        obtain ⟨h0, h1⟩ := HG3.out.cells
        obtain ⟨⟨y0, q0⟩, ⟨y1, q1⟩, -, hSX⟩ := HZ3.out.ready (.slice a' k c') (.slice b' k d')
        have HSX := Hid.mk hSX
        have HB4 := Hid.mk (set2_below HB3.out (Nat.le_refl _) (.slice a' k c') (.slice b' k d'))
        have HR4 := Hid.mk (rts_far (rts_far (rts_far HR2.out HFR.out (show w.heap.size + 1 < w.heap.size + 2 by omega) 0 (.slice a' k c')) HFR.out (show w.heap.size < w.heap.size + 2 by omega) 0 (.slice a' k c')) HFR.out (show w.heap.size < w.heap.size + 2 by omega) 1 (.slice b' k d'))
        have HN4 := Hid.mk (nums_far (nums_far (nums_far HN2.out HFN.out (show w.heap.size + 1 < w.heap.size + 2 by omega) 0 (.slice a' k c')) HFN.out (show w.heap.size < w.heap.size + 2 by omega) 0 (.slice a' k c')) HFN.out (show w.heap.size < w.heap.size + 2 by omega) 1 (.slice b' k d'))
        clear hSX
        go_wp2_with fail
        refine bodyPost_ret (new_res _ _ w.heap.size _ _ rfl rfl HSX.out rfl) rfl ?_
        exact ⟨HB4.out, a', c', b', d', rfl, HR4.out, HN4.out⟩
      · have hne : (E != 0) = true := by simpa using hz
        have HNE := Hid.mk hz
        obtain ⟨⟨y0, q0⟩, ⟨y1, q1⟩, -, hSX⟩ := HZ1.out.ready (.slice none 0 0) (.slice none 0 0)
        have HSX := Hid.mk hSX
        clear hSX hz
        go_wp2_with fail
        refine bodyPost_ret (new_res _ _ w.heap.size _ _ rfl rfl HSX.out rfl) rfl ?_
        exact ⟨set2_below HB1.out (Nat.le_refl _) _ _, .inl ⟨HNE.out, rfl⟩⟩
end Bw
end Go.Proofs.YtapjiopnjfldhaaDoor
