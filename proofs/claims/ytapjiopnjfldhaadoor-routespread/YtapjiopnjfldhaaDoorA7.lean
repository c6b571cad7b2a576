/- Copies of numbers and of bytes; a gateway's variable that is stored. -/
import Derived.Test.YtapjiopnjfldhaaDoorA1
import Derived.Lib.SliceRun
import Derived.Test.YtapjiopnjfldhaaDoorRtGate
import Derived.ArgAppend
namespace Go.Proofs.YtapjiopnjfldhaaDoor
open Go.ChangeShapes Go.WideShapes Go.ChangeAt Go.RowKit
namespace Bw
open Bm

def HasBytes (w : World) (a : Option Addr) (n : Nat) (l : List UInt8) : Prop :=
  (a = none → n = 0) ∧ ∀ x, a = some x → ∀ i, i < n → w.cell? (x.add i) = some (.int .u8 (l.getD i 0).toNat)

set_option maxHeartbeats 1000000 in
theorem equalB_true (w : World) (a b : Option Addr) (n c d : Nat) (l : List UInt8) (hn : n ≤ maxLen) (ha : HasBytes w a n l) (hb : HasBytes w b n l) :
    Calls Tryd.prog 59 #[.slice a n c, .slice b n d] w fun e w' => e = .returned (.bool true) ∧ Below w.heap.size w w' := by
  have HA := Hid.mk ha
  have HB := Hid.mk hb
  unfold maxLen at hn
  clear ha hb
  go_enter Tryd.func59, Tryd.ntmps59
  go_wp2
  go_loopw [13] (fun i w' => ∃ k : Nat, k ≤ n ∧ i = .int .i64 k ∧ ∃ m, w' = w.drewN m) (fun i _ => n - (intOf i).toNat)
  case atStart => exact ⟨0, Nat.zero_le _, rfl, 0, rfl⟩
  case round =>
    obtain ⟨k, hk, rfl, m, rfl⟩ := hrel
    by_cases hlt : k < n
    · cases a with
      | none => exact absurd (HA.out.1 rfl) (by omega)
      | some x =>
        cases b with
        | none => exact absurd (HB.out.1 rfl) (by omega)
        | some y =>
          have g1 := HA.out.2 x rfl k hlt
          have g2 := HB.out.2 y rfl k hlt
          have hlt' : (k : Int) < (n : Int) := by omega
          go_wp2
          go_quiet (fail)
          go_wp2
          go_roundw
          case rel => exact ⟨k + 1, by omega, by go_num, _, rfl⟩
          case measure => simp [intOf]; omega
    · go_wp2
      go_ret
      exact ⟨rfl, ⟨rfl, rfl, rfl, Nat.le_refl _, fun _ _ => rfl⟩⟩
end Bw
end Go.Proofs.YtapjiopnjfldhaaDoor
namespace Go.Proofs.YtapjiopnjfldhaaDoor
open Go.ChangeShapes Go.WideShapes Go.ChangeAt Go.RowKit
namespace Bw
open Bm
theorem awG (w : World) (o : Obj) : Below w.heap.size w (w.alloc o) := (Below.refl _ _).alloc (Nat.le_refl _) _
theorem dwG (w : World) : Below w.heap.size w w.drew := ⟨rfl, rfl, rfl, Nat.le_refl _, fun _ _ => rfl⟩
theorem owns_baseG {w : World} {base base' : Nat} {e : TypeId} {size : Nat} {v : Value} {n : Nat} {xs : List Value} (h : w.ownsRow base e size v n xs) (hb : base' ≤ base) : w.ownsRow base' e size v n xs := by
  obtain ⟨h1, h2⟩ := h
  refine ⟨h1, ?_⟩
  rcases h2 with h2 | ⟨g, cap, cur, hv, hg, hr⟩
  · exact Or.inl h2
  · exact Or.inr ⟨g, cap, cur, hv, Nat.le_trans hb hg, hr⟩
theorem cells_atG (l : List UInt8) (i : Nat) (h : i < l.length) : (cellsOf l)[i]? = some (.int .u8 ((l.getD i 0).toNat : Int)) := by
  unfold cellsOf
  rw [List.getElem?_map, List.getElem?_eq_getElem h]
  simp [List.getD, h]
theorem isBytes_ownG {w : World} {base g n c : Nat} {l : List UInt8} (h : w.ownsRow base 5 1 (.slice (some ⟨g, 0, none⟩) n c) n (cellsOf l)) : IsBytes w (some ⟨g, 0, none⟩) n c l := by
  have hl : l.length = n := by have := h.1; rw [cellsOf_length] at this; omega
  rcases h.2 with ⟨h0, _⟩ | ⟨g', cap', cur, hv, hg, hh, hc, hm, hsz, htk⟩
  · cases h0
  · cases hv
    refine ⟨hl, hc, hm, fun e => (by cases e), fun x hx i hi => ?_⟩
    cases hx
    rw [Addr.add_lit, Nat.zero_add]
    have h2 := h.cells rfl i _ (cells_atG l i (by omega))
    rw [Addr.add_lit, Nat.zero_add] at h2
    exact h2
theorem hasG {w : World} {a : Option Addr} {n c : Nat} {l : List UInt8} (h : IsBytes w a n c l) : HasBytes w a n l := ⟨h.2.2.2.1, h.2.2.2.2⟩
theorem eqlG_nil (w : World) (cap : Nat) : (binOp .eql 26 (.slice none 0 cap) (.slice none 0 0)).run Tryd.prog w = .ok (.bool true) w :=
  Lib.run_eql_slice_nil w 26 5 none 0 cap 0 0 Tryd.underlying26
theorem eqlG_some (w : World) (x : Addr) (n cap : Nat) : (binOp .eql 26 (.slice (some x) n cap) (.slice none 0 0)).run Tryd.prog w = .ok (.bool false) w :=
  Lib.run_eql_slice_nil w 26 5 (some x) n cap 0 0 Tryd.underlying26
theorem bytes_cells {w : World} {x : Addr} {len cap : Nat} {dt : List UInt8} (hY : IsBytes w (some x) len cap dt) : ∀ q u, (cellsOf dt)[q]? = some u → w.cell? (x.add q) = some u := by
  intro q u hq
  have hq1 : q < dt.length := by
    rcases Nat.lt_or_ge q dt.length with hh | hh
    · exact hh
    · rw [List.getElem?_eq_none (by rw [cellsOf_length]; exact hh)] at hq; cases hq
  rw [hY.2.2.2.2 x rfl q (by have := hY.1; omega)]
  rw [cells_atG dt q hq1] at hq
  exact hq
end Bw
end Go.Proofs.YtapjiopnjfldhaaDoor
namespace Go.Proofs.YtapjiopnjfldhaaDoor
open Go.ChangeShapes Go.WideShapes Go.ChangeAt Go.RowKit
namespace Bw
open Bm
set_option linter.unusedVariables false
theorem flat_len {α : Type} (cl : α → List Value) (n : Nat) (hn : ∀ x, (cl x).length = n) : ∀ l : List α, (l.flatMap cl).length = l.length * n
  | [] => by simp
  | a :: t => by rw [List.flatMap_cons, List.length_append, hn, flat_len cl n hn t, List.length_cons, Nat.add_mul]; omega
theorem flat_get {α : Type} (cl : α → List Value) (n : Nat) (hn : ∀ x, (cl x).length = n) : ∀ (l : List α) (i k : Nat) (hi : i < l.length), k < n → (l.flatMap cl)[i * n + k]? = (cl l[i])[k]?
  | [], i, k, hi, hk => by simp at hi
  | a :: t, 0, k, hi, hk => by
    rw [List.flatMap_cons, List.getElem?_append_left (by rw [hn]; omega)]
    simp
  | a :: t, i + 1, k, hi, hk => by
    have hi' : i < t.length := by simpa using hi
    rw [List.flatMap_cons, List.getElem?_append_right (by rw [hn, Nat.add_mul]; omega), hn, show (i + 1) * n + k - n = i * n + k by rw [Nat.add_mul]; omega, flat_get cl n hn t i k hi' hk]
    simp
def Rt.cl (r : Rt) : List Value := [.int .i64 r.fr, .int .i64 r.tb, .int .i64 r.f.w, .int .i64 r.f.m, .bool r.f.lo, .int .i64 r.add, .int .i64 r.ev]
def rtsC (l : List Rt) : List Value := l.flatMap Rt.cl
theorem rtsC_len (l : List Rt) : (rtsC l).length = l.length * 7 := flat_len Rt.cl 7 (fun _ => rfl) l
theorem seven {k : Nat} (h : k < 7) : k = 0 ∨ k = 1 ∨ k = 2 ∨ k = 3 ∨ k = 4 ∨ k = 5 ∨ k = 6 := by omega
theorem getR {l : List Rt} {i : Nat} (h : i < l.length) : l.getD i noR = l[i] := by simp [List.getD, h]
theorem rts_cells {w : World} {x : Addr} {n c : Nat} {l : List Rt} (h : IsRts w (some x) n c l) : ∀ j u, (rtsC l)[j]? = some u → w.cell? (x.add j) = some u := by
  intro j u hj
  have hlt : j < l.length * 7 := by
    rw [← rtsC_len]
    exact (List.getElem?_eq_some_iff.1 hj).1
  obtain ⟨i, k, rfl, hi, hk⟩ : ∃ i k, j = i * 7 + k ∧ i < l.length ∧ k < 7 := ⟨j / 7, j % 7, by omega, by omega, by omega⟩
  have hg := flat_get Rt.cl 7 (fun _ => rfl) l i k hi hk
  unfold rtsC at hj
  rw [hg] at hj
  have hc := h.cell x rfl i (by have := h.len; omega)
  rw [getR hi] at hc
  rcases seven hk with rfl | rfl | rfl | rfl | rfl | rfl | rfl
  · cases hj; exact hc.c0
  · cases hj; rw [fil_next x (i * 7) 0]; exact hc.c1
  · cases hj; rw [fil_next x (i * 7) 1]; exact hc.c2
  · cases hj; rw [fil_next x (i * 7) 2]; exact hc.c3
  · cases hj; rw [fil_next x (i * 7) 3]; exact hc.c4
  · cases hj; rw [fil_next x (i * 7) 4]; exact hc.c5
  · cases hj; rw [fil_next x (i * 7) 5]; exact hc.c6
theorem rts_one : ∀ (l : List Rt) u, u ∈ rtsC l → u.oneCell' = true := by
  intro l u hu
  unfold rtsC at hu
  rw [List.mem_flatMap] at hu
  obtain ⟨r, -, hr⟩ := hu
  simp [Rt.cl] at hr
  rcases hr with rfl | rfl | rfl | rfl | rfl | rfl | rfl <;> rfl
theorem rts_of {w : World} {base : Nat} {v : Value} {l : List Rt} (h : w.ownsRow base 45 7 v l.length (rtsC l)) : ∃ a cap, v = .slice a l.length cap ∧ IsRts w a l.length cap l := by
  rcases h.2 with ⟨hv, hn⟩ | ⟨g, cap, cur, hv, _, hh, hc, hm, hsz, htk⟩
  · refine ⟨none, 0, by rw [hv, hn], ?_⟩
    have hl : l = [] := by simpa using hn
    subst hl
    exact ⟨rfl, Nat.le_refl _, Nat.zero_le _, fun _ => rfl, fun x hx => by cases hx⟩
  · refine ⟨_, cap, hv, rfl, hc, hm, (fun h => by cases h), ?_⟩
    intro x hx i hi
    cases hx
    subst hv
    have ea : ∀ j, (Addr.add ⟨g, 0, none⟩ j) = ⟨g, j, none⟩ := by intro j; simp [Addr.add]; exact fun h => h.symm
    have hcell := h.cells (g := g) rfl
    have hk : ∀ k, k < 7 → ∀ u, (Rt.cl l[i])[k]? = some u → w.cell? ⟨g, i * 7 + k, none⟩ = some u := by
      intro k hk u hu
      have hg := flat_get Rt.cl 7 (fun _ => rfl) l i k hi hk
      rw [hu] at hg
      have := hcell (i * 7 + k) u hg
      rw [ea] at this
      exact this
    rw [getR hi, ea]
    exact ⟨hk 0 (by omega) _ rfl, hk 1 (by omega) _ rfl, hk 2 (by omega) _ rfl, hk 3 (by omega) _ rfl, hk 4 (by omega) _ rfl, hk 5 (by omega) _ rfl, hk 6 (by omega) _ rfl⟩
theorem nums_own {w : World} {base : Nat} {v : Value} {l : List Int} (h : w.ownsRow base 3 1 v l.length (numC l)) : ∃ a cap, v = .slice a l.length cap ∧ IsNums w a l.length cap l := by
  rcases h.2 with ⟨hv, hn⟩ | ⟨g, cap, cur, hv, _, hh, hc, hm, hsz, htk⟩
  · have hl : l = [] := by simpa using hn
    subst hl
    exact ⟨none, 0, hv, rfl, Nat.le_refl _, Nat.zero_le _, fun _ => rfl, fun x hx => by cases hx⟩
  · refine ⟨_, cap, hv, rfl, hc, hm, (fun h => by cases h), ?_⟩
    intro x hx i hi
    cases hx
    subst hv
    exact h.cells (g := g) rfl i _ (by simp [numC, List.getD, hi])
theorem nums_cells {w : World} {x : Addr} {n c : Nat} {l : List Int} (h : IsNums w (some x) n c l) : ∀ j u, (numC l)[j]? = some u → w.cell? (x.add j) = some u := by
  intro j u hj
  obtain ⟨hlt, rfl⟩ := List.getElem?_eq_some_iff.1 hj
  have hl : j < l.length := by simpa [numC] using hlt
  rw [h.cell x rfl j (by have := h.len; omega)]
  simp [numC, List.getD, hl]
theorem nums_one : ∀ (l : List Int) u, u ∈ numC l → u.oneCell' = true := by
  intro l u hu
  simp [numC] at hu
  obtain ⟨z, -, rfl⟩ := hu
  rfl
theorem info_rt : (Tryd.prog.info? 45).map (fun i => (i.zero, i.size, i.bytes)) = some (some (.agg #[.int .i64 0, .int .i64 0, .int .i64 0, .int .i64 0, .bool false, .int .i64 0, .int .i64 0]), 7, 56) := by kernel_rfl
theorem below_none {w w' : World} (h : w.grownBy w' none) : Below w.heap.size w w' := Below.grown (Below.refl _ _) h (Nat.le_refl _) (fun q hq => by cases hq)
set_option maxHeartbeats 4000000 in
set_option maxRecDepth 100000 in
theorem copiedR_any (a : Option Addr) (n c : Nat) (l : List Rt) (w : World) (hR : IsRts w a n c l) (hn : n ≤ 1000) :
    Calls Tryd.prog 28 #[.slice a n c] w fun e w' => ∃ v, e = .returned v ∧ w'.ownsRow w.heap.size 45 7 v n (rtsC l) ∧ Below w.heap.size w w' := by
  have hlen := hR.len
  by_cases h0 : n = 0
  · subst h0
    obtain rfl : l = [] := List.eq_nil_of_length_eq_zero hlen
    go_enter Tryd.func28, Tryd.ntmps28
    go_wp2_with fail
    go_ret
    exact ⟨_, rfl, World.ownsRow_nil _ _ _ _, Below.refl _ _⟩
  · obtain ⟨x, rfl⟩ := hR.some (i := 0) (by omega)
    obtain ⟨i0, hi, hz0, hz1, hz2⟩ := info_parts info_rt
    have hb : ((n : Int) == 0) = false := by simp; omega
    have hn' : (n : Int) ≤ 1000 := by omega
    have HC := Hid.mk (rts_cells hR)
    have HL : Hid ((rtsC l).length = n * 7) := Hid.mk (by rw [rtsC_len, hlen])
    have HO := Hid.mk (rts_one l)
    have HN := Hid.mk hn
    have HP : Hid (0 < n) := Hid.mk (by omega)
    clear hR h0 hn
    go_enter Tryd.func28, Tryd.ntmps28
    go_wp2_with (at_builtin; refine wpList_append_grows _ rfl (.tmp 7) (.tmp 8) 22 rfl 45 i0 _ 7 56 Tryd.underlying22 hi hz0 hz1 hz2 rfl (by decide) (some x) 0 0 [] rfl (fun e => by cases e) rfl (fun b hb j u hj => by simp at hj) x n c (rtsC l) rfl HL.out HC.out HO.out (by have := HP.out; omega) (by have := HN.out; unfold maxLen; omega) (by have := HN.out; omega) ?_; intro v3 w3 hown3 hgrow3)
    rw [Nat.zero_add, List.nil_append] at hown3
    have HW := Hid.mk hown3
    have HG := Hid.mk (below_none hgrow3)
    clear hown3 hgrow3
    go_wp2_with fail
    go_ret
    exact ⟨_, rfl, HW.out, HG.out⟩
end Bw
end Go.Proofs.YtapjiopnjfldhaaDoor
namespace Go.Proofs.YtapjiopnjfldhaaDoor
open Go.ChangeShapes Go.WideShapes Go.ChangeAt Go.RowKit
namespace Bw
open Bm
set_option linter.unusedVariables false
set_option maxHeartbeats 4000000 in
set_option maxRecDepth 100000 in
theorem copiedI_any (a : Option Addr) (n c : Nat) (l : List Int) (w : World) (hR : IsNums w a n c l) (hn : n ≤ 1000) :
    Calls Tryd.prog 29 #[.slice a n c] w fun e w' => ∃ v, e = .returned v ∧ w'.ownsRow w.heap.size 3 1 v n (numC l) ∧ Below w.heap.size w w' := by
  have hlen := hR.len
  by_cases h0 : n = 0
  · subst h0
    obtain rfl : l = [] := List.eq_nil_of_length_eq_zero hlen
    go_enter Tryd.func29, Tryd.ntmps29
    go_wp2_with fail
    go_ret
    exact ⟨_, rfl, World.ownsRow_nil _ _ _ _, Below.refl _ _⟩
  · obtain ⟨x, rfl⟩ := hR.some (i := 0) (by omega)
    obtain ⟨i0, hi, hz0, hz1, hz2⟩ := info_parts info_intF
    have hb : ((n : Int) == 0) = false := by simp; omega
    have hn' : (n : Int) ≤ 1000 := by omega
    have HC := Hid.mk (nums_cells hR)
    have HL : Hid ((numC l).length = n * 1) := Hid.mk (by simp [numC, hlen])
    have HO := Hid.mk (nums_one l)
    have HN := Hid.mk hn
    have HP : Hid (0 < n) := Hid.mk (by omega)
    clear hR h0 hn
    go_enter Tryd.func29, Tryd.ntmps29
    go_wp2_with (at_builtin; refine wpList_append_grows _ rfl (.tmp 7) (.tmp 8) 23 rfl 3 i0 _ 1 8 Tryd.underlying23 hi hz0 hz1 hz2 rfl (by decide) (some x) 0 0 [] rfl (fun e => by cases e) rfl (fun b hb j u hj => by simp at hj) x n c (numC l) rfl HL.out HC.out HO.out (by have := HP.out; omega) (by have := HN.out; unfold maxLen; omega) (by have := HN.out; omega) ?_; intro v3 w3 hown3 hgrow3)
    rw [Nat.zero_add, List.nil_append] at hown3
    have HW := Hid.mk hown3
    have HG := Hid.mk (below_none hgrow3)
    clear hown3 hgrow3
    go_wp2_with fail
    go_ret
    exact ⟨_, rfl, HW.out, HG.out⟩
/-- bytes that are none, or lie from block B on -/
def FarB (B : Nat) (a : Option Addr) : Prop := ∀ x, a = some x → B ≤ x.block
set_option maxHeartbeats 4000000 in
set_option maxRecDepth 100000 in
theorem copiedB_any (a : Option Addr) (n c : Nat) (l : List UInt8) (w : World) (hR : IsBytes w a n c l) (hn : n ≤ 1000) :
    Calls Tryd.prog 56 #[.slice a n c] w fun e w' => ∃ a' c', e = .returned (.slice a' n c') ∧ IsBytes w' a' n c' l ∧ FarB w.heap.size a' ∧ Below w.heap.size w w' := by
  have hlen := hR.1
  by_cases h0 : n = 0
  · subst h0
    obtain rfl : l = [] := List.eq_nil_of_length_eq_zero hlen
    go_enter Tryd.func56, Tryd.ntmps56
    go_wp2_with fail
    go_ret
    exact ⟨none, 0, rfl, ⟨rfl, Nat.le_refl _, Nat.zero_le _, fun _ => rfl, fun y hy => by cases hy⟩, (fun x hx => by cases hx), Below.refl _ _⟩
  · obtain ⟨x, rfl⟩ : ∃ x, a = some x := by
      cases a with
      | none => have := hR.2.2.2.1 rfl; omega
      | some x => exact ⟨x, rfl⟩
    obtain ⟨i0, hi, hz0, hz1, hz2⟩ := info_parts info_u8
    have hb : ((n : Int) == 0) = false := by simp; omega
    have hn' : (n : Int) ≤ 1000 := by omega
    have HC := Hid.mk (bytes_cells hR)
    have HL : Hid ((cellsOf l).length = n * 1) := Hid.mk (by rw [cellsOf_length, hlen, Nat.mul_one])
    have HO : Hid (∀ u ∈ cellsOf l, u.oneCell' = true) := Hid.mk (by intro u hu; simp [cellsOf] at hu; obtain ⟨c, -, rfl⟩ := hu; rfl)
    have HN := Hid.mk hn
    have HP : Hid (0 < n) := Hid.mk (by omega)
    clear hR h0 hn
    go_enter Tryd.func56, Tryd.ntmps56
    go_wp2_with (at_builtin; refine wpList_append_grows _ rfl (.tmp 7) (.tmp 8) 26 rfl 5 i0 _ 1 1 Tryd.underlying26 hi hz0 hz1 hz2 rfl (by decide) (some x) 0 0 [] rfl (fun e => by cases e) rfl (fun b hb j u hj => by simp at hj) x n c (cellsOf l) rfl HL.out HC.out HO.out (by have := HP.out; omega) (by have := HN.out; unfold maxLen; omega) (by have := HN.out; omega) ?_; intro v3 w3 hown3 hgrow3)
    rw [Nat.zero_add, List.nil_append] at hown3
    obtain ⟨g, c', rfl, hg⟩ : ∃ g c', v3 = .slice (some ⟨g, 0, none⟩) n c' ∧ w.heap.size ≤ g := by
      rcases hown3.2 with ⟨h1, h2⟩ | ⟨g, c, cur, h1, h2, _⟩
      · have := HP.out; omega
      · exact ⟨g, c, h1, h2⟩
    have HW := Hid.mk (isBytes_ownG hown3)
    have HG := Hid.mk (below_none hgrow3)
    have HF := Hid.mk hg
    clear hown3 hgrow3 hg
    go_wp2_with fail
    go_ret
    exact ⟨_, _, rfl, HW.out, fun y hy => (by cases hy; exact HF.out), HG.out⟩
/-- a variable of two cells -/
def Row2 (w : World) (g : Nat) (x y : Value) : Prop := w.heap[g]? = some (.cells #[x, y] 25 (0, 0))
theorem Row2.lt {w : World} {g : Nat} {x y : Value} (h : Row2 w g x y) : g < w.heap.size := (Array.getElem?_eq_some_iff.1 h).1
theorem Row2.keptB {w w' : World} {g B : Nat} {x y : Value} (h : Row2 w g x y) (hb : Below B w w') (hg : g < B) : Row2 w' g x y := by unfold Row2; rw [hb.block g hg]; exact h
theorem Row2.kept {w w' : World} {g : Nat} {x y : Value} (h : Row2 w g x y) (hb : Below w.heap.size w w') : Row2 w' g x y := h.keptB hb h.lt
theorem Row2.new (w : World) (x y : Value) : Row2 (w.alloc (.cells #[x, y] 25)) w.heap.size x y := heap_alloc_new w _
theorem Row2.cells {w : World} {g : Nat} {x y : Value} (h : Row2 w g x y) : w.cell? ⟨g, 0, none⟩ = some x ∧ w.cell? ⟨g, 1, none⟩ = some y := ⟨cell_of_row _ _ 0 _ _ _ h, cell_of_row _ _ 1 _ _ _ h⟩
theorem Row2.frozen {w : World} {g : Nat} {x y : Value} (h : Row2 w g x y) (i : Nat) : w.frozen? ⟨g, i, none⟩ = false := frozen_of_row _ _ i _ _ h
theorem Row2.set0 {w : World} {g : Nat} {x y : Value} (h : Row2 w g x y) (v : Value) : Row2 (w.setCell ⟨g, 0, none⟩ v) g v y := heap_setCell_same _ g 0 _ _ v h
theorem Row2.set1 {w : World} {g : Nat} {x y : Value} (h : Row2 w g x y) (v : Value) : Row2 (w.setCell ⟨g, 1, none⟩ v) g x v := heap_setCell_same _ g 1 _ _ v h
theorem Row2.far {w : World} {g : Nat} {x y : Value} (h : Row2 w g x y) {p : Addr} (hg : g ≠ p.block) (v : Value) : Row2 (w.setCell p v) g x y := by
  unfold Row2
  rw [heap_setCell_other w p g v hg]
  exact h
theorem Row2.ready {w : World} {g : Nat} {x y : Value} (h : Row2 w g x y) (x' y' : Value) : (w.cell? ⟨g, 0, none⟩ = some x ∧ w.frozen? ⟨g, 0, none⟩ = false) ∧ ((w.setCell ⟨g, 0, none⟩ x').cell? ⟨g, 1, none⟩ = some y ∧ (w.setCell ⟨g, 0, none⟩ x').frozen? ⟨g, 1, none⟩ = false) ∧ (w.cell? ⟨g, 1, none⟩ = some y ∧ w.frozen? ⟨g, 1, none⟩ = false) ∧ Row2 ((w.setCell ⟨g, 0, none⟩ x').setCell ⟨g, 1, none⟩ y') g x' y' :=
  ⟨⟨h.cells.1, h.frozen 0⟩, ⟨(h.set0 x').cells.2, (h.set0 x').frozen 1⟩, ⟨h.cells.2, h.frozen 1⟩, (h.set0 x').set1 y'⟩
theorem set2_below {B : Nat} {a w : World} (h : Below B a w) {g : Nat} (hg : B ≤ g) (x y : Value) : Below B a ((w.setCell ⟨g, 0, none⟩ x).setCell ⟨g, 1, none⟩ y) :=
  (h.setCell (p := ⟨g, 0, none⟩) hg x).setCell (p := ⟨g, 1, none⟩) hg y
theorem ga_i : (Tryd.prog.info? 25).map (·.size) = some 2 := by kernel_rfl
end Bw
end Go.Proofs.YtapjiopnjfldhaaDoor
