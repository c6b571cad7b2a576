/- What sched.send has at hand: rows of messages that it takes from, the slots that it tells. -/
import Derived.Test.YtnhnemmddgofnaaDoorS2
import Derived.Shelf.Abstract
import Derived.BigQuiet
namespace Go.Proofs.YtnhnemmddgofnaaDoor
open Go.ChangeShapes Go.WideShapes Go.ChangeAt Go.RowKit
namespace Bw
open Sb (Ms)
set_option linter.unusedVariables false
/-- the soonest of the heads, so far s -/
def soonK (s : Nat × Bool) (q : List Ms) : Nat × Bool := match q with
  | [] => s
  | m :: _ => if s.2 = false ∨ m.2 < s.1 then (m.2, true) else s
def soonP : Nat × Bool → List (List Ms) → Nat × Bool
  | s, [] => s
  | s, q :: Q => soonP (soonK s q) Q
theorem soon_no : ∀ {Q : List (List Ms)} {s : Nat × Bool}, (soonP s Q).2 = false → s.2 = false ∧ ∀ j, j < Q.length → Q.getD j [] = []
  | [], s, h => ⟨h, fun j hj => absurd hj (Nat.not_lt_zero _)⟩
  | q :: Q, s, h => by
    obtain ⟨h1, h2⟩ := soon_no (Q := Q) (s := soonK s q) h
    cases q with
    | nil =>
      refine ⟨h1, fun j hj => ?_⟩
      cases j with
      | zero => rfl
      | succ j => exact h2 j (by simp at hj; omega)
    | cons m tl =>
      unfold soonK at h1
      simp only at h1
      split at h1
      · cases h1
      · rename_i hn
        exact absurd (.inl h1) hn
theorem soon_yes : ∀ {Q : List (List Ms)} {s : Nat × Bool}, (soonP s Q).2 = true → (s.2 = true → (soonP s Q).1 ≤ s.1) ∧ (∀ j m tl, j < Q.length → Q.getD j [] = m :: tl → (soonP s Q).1 ≤ m.2) ∧ ((s.2 = true ∧ (soonP s Q).1 = s.1) ∨ ∃ j m tl, j < Q.length ∧ Q.getD j [] = m :: tl ∧ m.2 = (soonP s Q).1)
  | [], s, h => ⟨fun _ => Nat.le_refl _, fun j _ _ hj => absurd hj (Nat.not_lt_zero _), .inl ⟨h, rfl⟩⟩
  | q :: Q, s, h => by
    obtain ⟨h1, h2, h3⟩ := soon_yes (Q := Q) (s := soonK s q) h
    have e : soonP s (q :: Q) = soonP (soonK s q) Q := rfl
    rw [e]
    cases q with
    | nil =>
      refine ⟨h1, fun j m tl hj hq => ?_, ?_⟩
      · cases j with
        | zero => cases hq
        | succ j => exact h2 j m tl (by simp at hj; omega) hq
      · rcases h3 with h3 | ⟨j, m, tl, a1, a2, a3⟩
        · exact .inl h3
        · exact .inr ⟨j + 1, m, tl, by simp; omega, a2, a3⟩
    | cons m tl =>
      have e2 : soonK s (m :: tl) = if s.2 = false ∨ m.2 < s.1 then (m.2, true) else s := rfl
      by_cases hc : s.2 = false ∨ m.2 < s.1
      · rw [if_pos hc] at e2
        rw [e2] at h1 h2 h3 ⊢
        have h1' := h1 rfl
        simp only at h1'
        refine ⟨fun hs => ?_, fun j m' tl' hj hq => ?_, ?_⟩
        · rcases hc with hc | hc
          · rw [hs] at hc; cases hc
          · omega
        · cases j with
          | zero =>
            have hq' : m :: tl = m' :: tl' := hq
            obtain ⟨rfl, -⟩ := List.cons.inj hq'
            exact h1'
          | succ j => exact h2 j m' tl' (by simp at hj; omega) hq
        · rcases h3 with h3 | ⟨j, m', tl', a1, a2, a3⟩
          · exact .inr ⟨0, m, tl, by simp, rfl, h3.2.symm⟩
          · exact .inr ⟨j + 1, m', tl', by simp; omega, a2, a3⟩
      · rw [if_neg hc] at e2
        rw [e2] at h1 h2 h3 ⊢
        have hst : s.2 = true := by
          cases hs : s.2 with
          | true => rfl
          | false => exact absurd (.inl hs) hc
        have hge : ¬ m.2 < s.1 := fun h => hc (.inr h)
        refine ⟨h1, fun j m' tl' hj hq => ?_, ?_⟩
        · cases j with
          | zero =>
            have hq' : m :: tl = m' :: tl' := hq
            obtain ⟨rfl, -⟩ := List.cons.inj hq'
            have := h1 hst
            omega
          | succ j => exact h2 j m' tl' (by simp at hj; omega) hq
        · rcases h3 with h3 | ⟨j, m', tl', a1, a2, a3⟩
          · exact .inl h3
          · exact .inr ⟨j + 1, m', tl', by simp; omega, a2, a3⟩
def hdP (t : Nat) (q : List Ms) : Bool := match q with
  | [] => false
  | m :: _ => decide (m.2 ≤ t)
/-- rows of messages in a row -/
structure WtV (w : World) (ao : Option Addr) (n c : Nat) (Q : List (List Ms)) (B : Nat) : Prop where
  len : Q.length = n
  le : n ≤ c
  max : c ≤ maxLen
  none : ao = none → n = 0
  cell : ∀ y, ao = some y → ∀ i, i < n → ∃ a m c', w.cell? (y.add i) = some (.slice a m c') ∧ MsRow w a m c' (Q.getD i []) B
theorem WtV.kept {w w' : World} {ao : Option Addr} {n c : Nat} {Q : List (List Ms)} {B : Nat} (h : WtV w ao n c Q B) (hb : Below w.heap.size w w') : WtV w' ao n c Q B :=
  ⟨h.len, h.le, h.max, h.none, fun y hy i hi => by obtain ⟨a, m, c', e1, e2⟩ := h.cell y hy i hi; exact ⟨a, m, c', cell_kept hb e1, e2.kept hb⟩⟩
theorem WtV.some {w : World} {ao : Option Addr} {n c : Nat} {Q : List (List Ms)} {B : Nat} (h : WtV w ao n c Q B) {i : Nat} (hi : i < n) : ∃ x, ao = some x := by
  cases ao with
  | none => exact absurd (h.none rfl) (by omega)
  | some x => exact ⟨x, rfl⟩
theorem addZ (x : Addr) : x.add (0 * 2) = x := by unfold Addr.add; simp
/-- a row's first message -/
theorem MsRow.head {w : World} {a : Option Addr} {m c : Nat} {y : Ms} {tl : List Ms} {B : Nat} (h : MsRow w a m c (y :: tl) B) : ∃ g off, a = some ⟨g, off, Option.none⟩ ∧ m = tl.length + 1 ∧ B ≤ g ∧ g < w.heap.size ∧ w.cell? ⟨g, off, Option.none⟩ = some (.int .i64 (y.1 : Nat)) ∧ w.cell? ⟨g, off + 1, Option.none⟩ = some (.int .i64 (y.2 : Nat)) := by
  have hm : m = tl.length + 1 := by rw [← h.len]; rfl
  cases ha : a with
  | none => have := h.none ha; omega
  | some x =>
    obtain ⟨b1, b2, b3⟩ := h.blk x ha
    obtain ⟨e1, e2⟩ := h.cell x ha 0 (by omega)
    rw [addZ] at e1 e2
    refine ⟨x.block, x.off, by rw [← b3], hm, b1, b2, ?_, ?_⟩
    · rw [← b3]; exact e1
    · exact e2
set_option maxHeartbeats 4000000 in
set_option maxRecDepth 100000 in
theorem soonest_any (ao : Option Addr) (n c : Nat) (Q : List (List Ms)) (B : Nat) (w : World) (hV : WtV w ao n c Q B) :
    Calls Tryd.prog 30 #[.slice ao n c] w fun e w' => e = .returned (.tuple #[.int .i64 ((soonP (0, false) Q).1 : Nat), .bool (soonP (0, false) Q).2]) ∧ Below w.heap.size w w' := by
  have HV := Hid.mk hV
  have HLN := Hid.mk hV.len
  have hn63 := mlenD (Nat.le_trans hV.le hV.max)
  obtain ⟨Z, hZ⟩ : ∃ Z, Z = soonP (0, false) Q := ⟨_, rfl⟩
  rw [← hZ]
  have HZ := Hid.mk hZ
  clear hV hZ
  go_enter Tryd.func30, Tryd.ntmps30
  go_wp2_with fail
  go_loopw [4, 5, 10] (fun s4 s5 s10 wr => ∃ (k t : Nat) (is : Bool), k ≤ n ∧ s4 = .int .i64 t ∧ s5 = .bool is ∧ s10 = .int .i64 k ∧ Hid (Z = soonP (t, is) (Q.drop k)) ∧ Hid (Below w.heap.size w wr)) (fun _ _ i _ => n - (intOf i).toNat)
  case atStart => exact ⟨0, 0, false, Nat.zero_le _, rfl, rfl, rfl, HZ, Hid.mk (Below.refl _ _)⟩
  case round =>
    obtain ⟨k, t, is, hk, rfl, rfl, rfl, HA, HB⟩ := hrel
    by_cases hlt : k < n
    · have hlt' : (k : Int) < (n : Int) := by omega
      obtain ⟨y, rfl⟩ := HV.out.some hlt
      obtain ⟨a, m, c', e1, e2⟩ := (HV.out.kept HB.out).cell y rfl k hlt
      have HD : Hid (Z = soonP (soonK (t, is) (Q.getD k [])) (Q.drop (k + 1))) := Hid.mk (by
        have hkl : k < Q.length := by rw [HLN.out]; exact hlt
        rw [HA.out, List.drop_eq_getElem_cons hkl]
        have : Q.getD k [] = Q[k] := by simp [List.getD, hkl]
        rw [this]; rfl)
      cases hq : Q.getD k [] with
      | nil =>
        rw [hq] at HD e2
        have hm := e2.len
        have hm0 : m = 0 := by rw [← hm]; rfl
        subst hm0
        clear hm e2 hq
        go_wp2_with fail
        go_roundw
        case rel => exact ⟨k + 1, t, is, by omega, rfl, rfl, by go_num, HD, HB⟩
        case measure => simp [intOf]; omega
      | cons z tl =>
        rw [hq] at HD e2
        obtain ⟨g, off, rfl, rfl, b1, b2, d0, d1⟩ := e2.head
        have htl : ((tl.length + 1 : Nat) : Int) ≤ 9223372036854775807 := by have := e2.le; have := e2.max; unfold maxLen at this; omega
        have htl0 : (0 : Int) < ((tl.length + 1 : Nat) : Int) := by omega
        obtain ⟨a2, ha2⟩ : ∃ a2, a2 = z.2 := ⟨_, rfl⟩
        rw [← ha2] at d1
        have HD2 : Hid (Z = soonP (if is = false ∨ a2 < t then (a2, true) else (t, is)) (Q.drop (k + 1))) := Hid.mk (by rw [HD.out, ha2]; rfl)
        generalize tl.length + 1 = N at *
        clear e2 hq HD b1 b2 ha2
        cases is with
        | false =>
          have HD3 : Hid (Z = soonP (a2, true) (Q.drop (k + 1))) := Hid.mk (by rw [HD2.out, if_pos (.inl rfl)])
          go_wp2_with fail
          go_roundw
          case rel => exact ⟨k + 1, a2, true, by omega, rfl, rfl, by go_num, HD3, HB⟩
          case measure => simp [intOf]; omega
        | true =>
          by_cases hlt2 : a2 < t
          · have hlt3 : (a2 : Int) < (t : Int) := by omega
            have HD3 : Hid (Z = soonP (a2, true) (Q.drop (k + 1))) := Hid.mk (by rw [HD2.out, if_pos (.inr hlt2)])
            clear hlt2
            go_wp2_with fail
            go_roundw
            case rel => exact ⟨k + 1, a2, true, by omega, rfl, rfl, by go_num, HD3, HB⟩
            case measure => simp [intOf]; omega
          · have hlt3 : ¬ ((a2 : Int) < (t : Int)) := by omega
            have HD3 : Hid (Z = soonP (t, true) (Q.drop (k + 1))) := Hid.mk (by rw [HD2.out, if_neg (by rintro (h | h); cases h; exact hlt2 h)])
            clear hlt2
            go_wp2_with fail
            go_roundw
            case rel => exact ⟨k + 1, t, true, by omega, rfl, rfl, by go_num, HD3, HB⟩
            case measure => simp [intOf]; omega
    · obtain rfl : k = n := by omega
      have HF : Hid (Z = (t, is)) := Hid.mk (by rw [HA.out, List.drop_eq_nil_of_le (by rw [HLN.out]; exact Nat.le_refl _), soonP])
      go_wp2_with fail
      go_ret2
      refine ⟨?_, HB.out⟩
      rw [HF.out]
      rfl
set_option maxHeartbeats 4000000 in
theorem hd_any (a : Option Addr) (m c : Nat) (q : List Ms) (B T t : Nat) (w : World) (hR : MsRow w a m c q B) (ht : w.cell? ⟨T, 0, none⟩ = some (.int .i64 t)) :
    Calls Tryd.prog 32 #[.slice a m c, .pointer (some ⟨T, 0, none⟩)] w fun e w' => e = .returned (.bool (hdP t q)) ∧ Below w.heap.size w w' := by
  cases q with
  | nil =>
    have hm := hR.len
    have hm0 : m = 0 := by rw [← hm]; rfl
    subst hm0
    clear hm hR
    go_enter Tryd.func32, Tryd.ntmps32
    go_wp2_with fail
    go_quiet (fail)
    go_wp2_with fail
    go_ret
    exact ⟨rfl, below_drD (Below.refl _ _) _⟩
  | cons z tl =>
    obtain ⟨g, off, rfl, rfl, b1, b2, d0, d1⟩ := hR.head
    have htl0 : (0 : Int) < ((tl.length + 1 : Nat) : Int) := by omega
    have hh : hdP t (z :: tl) = decide (z.2 ≤ t) := rfl
    rw [hh]
    obtain ⟨a2, ha2⟩ : ∃ a2, a2 = z.2 := ⟨_, rfl⟩
    rw [← ha2] at d1 ⊢
    have HX : Hid (decide (a2 ≤ t) = decide ((a2 : Int) ≤ (t : Int))) := Hid.mk (by simp)
    have htl : ((tl.length + 1 : Nat) : Int) ≤ 9223372036854775807 := by have := hR.le; have := hR.max; unfold maxLen at this; omega
    have htd : decide ((0 : Int) < ((tl.length + 1 : Nat) : Int)) = true := decide_eq_true htl0
    have htn : 0 < tl.length + 1 := by omega
    generalize tl.length + 1 = N at *
    clear hR hh ha2 b1 b2
    go_enter Tryd.func32, Tryd.ntmps32
    go_wp2_with fail
    go_quiet (fail)
    go_wp2_with fail
    go_ret
    refine ⟨?_, below_drD (Below.refl _ _) _⟩
    rw [HX.out]
    rfl
theorem enter_hd : ∀ args w, (callFunc 32 args).run Tryd.prog w = .ok (.enter 32 args) w := enters_of Tryd.func32 (by kernel_rfl) rfl
set_option maxHeartbeats 4000000 in
theorem idxM_any (ao : Option Addr) (n c : Nat) (Q : List (List Ms)) (B T t : Nat) (w : World) (hV : WtV w ao n c Q B) (ht : w.cell? ⟨T, 0, none⟩ = some (.int .i64 t)) (hex : ∃ j, j < n ∧ hdP t (Q.getD j []) = true) :
    Calls Tryd.prog 31 #[.slice ao n c, .func (.func 32) #[] #[.pointer (some ⟨T, 0, none⟩)]] w fun e w' => ∃ i : Nat, e = .returned (.int .i64 i) ∧ i < n ∧ hdP t (Q.getD i []) = true ∧ (∀ j, j < i → hdP t (Q.getD j []) = false) ∧ Below w.heap.size w w' := by
  have HV := Hid.mk hV
  have HEX := Hid.mk hex
  have HT := Hid.mk ht
  have hn63 := mlenD (Nat.le_trans hV.le hV.max)
  have eg := enter_hd
  clear hV hex ht
  go_enter Tryd.func31, Tryd.ntmps31
  go_wp2_with fail
  go_loopw [8] (fun i wr => ∃ k : Nat, k ≤ n ∧ i = .int .i64 k ∧ Hid (∀ j, j < k → hdP t (Q.getD j []) = false) ∧ Hid (Below w.heap.size w wr)) (fun i _ => n - (intOf i).toNat)
  case atStart => exact ⟨0, Nat.zero_le _, rfl, Hid.mk (fun j hj => absurd hj (Nat.not_lt_zero _)), Hid.mk (Below.refl _ _)⟩
  case round =>
    obtain ⟨k, hk, rfl, HA, HB⟩ := hrel
    by_cases hlt : k < n
    · have hlt' : (k : Int) < (n : Int) := by omega
      obtain ⟨y, rfl⟩ := HV.out.some hlt
      obtain ⟨a, m, c', e1, e2⟩ := (HV.out.kept HB.out).cell y rfl k hlt
      have HC := Hid.mk (hd_any a m c' _ B T t wr e2 (cell_kept HB.out HT.out))
      cases hq : hdP t (Q.getD k []) with
      | true =>
        rw [hq] at HC
        have HQ := Hid.mk hq
        clear hq e2
        go_wp2_with (go_at_fn 32; refine HC.out.mono ?_; rintro e w1 ⟨rfl, hb1⟩)
        have HB1 := Hid.mk (bl2 HB.out hb1)
        clear hb1
        go_ret
        exact ⟨k, rfl, hlt, HQ.out, HA.out, HB1.out⟩
      | false =>
        rw [hq] at HC
        have HQ := Hid.mk hq
        clear hq e2
        go_wp2_with (go_at_fn 32; refine HC.out.mono ?_; rintro e w1 ⟨rfl, hb1⟩)
        have HB1 := Hid.mk (bl2 HB.out hb1)
        clear hb1
        go_roundw
        case rel =>
          refine ⟨k + 1, by omega, by go_num, Hid.mk (fun j hj => ?_), HB1⟩
          by_cases e : j = k
          · subst e; exact HQ.out
          · exact HA.out j (by omega)
        case measure => simp [intOf]; omega
    · exfalso
      obtain ⟨j, hj, h⟩ := HEX.out
      rw [HA.out j (by omega)] at h
      cases h
end Bw
end Go.Proofs.YtnhnemmddgofnaaDoor
namespace Go.Proofs.YtnhnemmddgofnaaDoor
open Go.ChangeShapes Go.WideShapes Go.ChangeAt Go.RowKit
namespace Bw
open Sb (Ms Sl)
set_option linter.unusedVariables false
structure WtQ (w : World) (g n c B U : Nat) (Q : List (List Ms)) : Prop where
  len : Q.length = n
  lo : B ≤ g
  hi : g < U
  row : ∃ vs, w.ownsRow B 71 1 (.slice (some ⟨g, 0, none⟩) n c) n vs ∧ ∀ i, i < n → ∃ a m c', vs[i]? = some (.slice a m c') ∧ MsRow w a m c' (Q.getD i []) B ∧ (∀ x, a = some x → x.block ≠ g ∧ x.block < U)
theorem WtQ.of {w : World} {B : Nat} {v : Value} {Q : List (List Ms)} (h : OwnQ w B v Q) (h0 : 0 < Q.length) : ∃ g c, v = .slice (some ⟨g, 0, none⟩) Q.length c ∧ WtQ w g Q.length c B w.heap.size Q := by
  obtain ⟨vs, h1, h2, h3⟩ := h.row
  rcases h1.2 with ⟨e1, e2⟩ | ⟨g, c, cur, e1, hb, hg, r⟩
  · omega
  · refine ⟨g, c, e1, rfl, hb, lt_of_block hg, vs, by rw [← e1]; exact h1, fun i hi => ?_⟩
    obtain ⟨a, m, c', k1, k2, k3⟩ := h3 i hi
    refine ⟨a, m, c', k1, k2, fun x hx => ⟨fun e => k3 x hx (by rw [e1, e]; rfl), (k2.blk x hx).2.1⟩⟩
theorem WtQ.le {w : World} {g n c B U : Nat} {Q : List (List Ms)} (h : WtQ w g n c B U Q) : n ≤ c ∧ c ≤ maxLen ∧ g < w.heap.size := by
  obtain ⟨vs, h1, -⟩ := h.row
  rcases h1.2 with ⟨e1, e2⟩ | ⟨g', c', cur, e1, hb, hg, hnc, hcm, -⟩
  · cases e1
  · simp only [Value.slice.injEq, Option.some.injEq, Addr.mk.injEq, and_true, true_and] at e1
    obtain ⟨rfl, rfl⟩ := e1
    exact ⟨hnc, hcm, lt_of_block hg⟩
theorem addG (g i : Nat) : (⟨g, 0, none⟩ : Addr).add i = ⟨g, i, none⟩ := by
  unfold Addr.add
  by_cases hz : i = 0 <;> simp [hz]
theorem WtQ.cellAt {w : World} {g n c B U : Nat} {Q : List (List Ms)} (h : WtQ w g n c B U Q) {i : Nat} (hi : i < n) : ∃ a m c', w.cell? ⟨g, i, none⟩ = some (.slice a m c') ∧ MsRow w a m c' (Q.getD i []) B ∧ (∀ x, a = some x → x.block ≠ g ∧ x.block < U) := by
  obtain ⟨vs, h1, h2⟩ := h.row
  obtain ⟨a, m, c', k1, k2, k3⟩ := h2 i hi
  refine ⟨a, m, c', ?_, k2, k3⟩
  have := h1.cells (g := g) rfl i _ k1
  rw [addG] at this
  exact this
theorem WtQ.frozen {w : World} {g n c B U : Nat} {Q : List (List Ms)} (h : WtQ w g n c B U Q) (i : Nat) : w.frozen? ⟨g, i, none⟩ = false := by
  obtain ⟨vs, h1, -⟩ := h.row
  exact h1.frozenAt i
theorem WtQ.view {w : World} {g n c B U : Nat} {Q : List (List Ms)} (h : WtQ w g n c B U Q) : WtV w (some ⟨g, 0, none⟩) n c Q B :=
  ⟨h.len, h.le.1, h.le.2.1, fun e => (by cases e), fun y hy i hi => by
    cases hy
    obtain ⟨a, m, c', k1, k2, -⟩ := h.cellAt hi
    refine ⟨a, m, c', ?_, k2⟩
    rw [addG]
    exact k1⟩
theorem WtQ.kept {w w' : World} {g n c B U : Nat} {Q : List (List Ms)} (h : WtQ w g n c B U Q) (hb : Below w.heap.size w w') : WtQ w' g n c B U Q := by
  obtain ⟨vs, h1, h2⟩ := h.row
  refine ⟨h.len, h.lo, h.hi, vs, ownsRow_below h1 hb, fun i hi => ?_⟩
  obtain ⟨a, m, c', k1, k2, k3⟩ := h2 i hi
  exact ⟨a, m, c', k1, k2.kept hb, k3⟩
theorem MsRow.grown {w w' : World} {a : Option Addr} {m c : Nat} {L : List Ms} {B : Nat} {row : Option Nat} (h : MsRow w a m c L B) (hg : w.grownBy w' row) (hn : ∀ x, a = some x → row ≠ some x.block) : MsRow w' a m c L B :=
  ⟨h.len, h.le, h.max, h.none, fun x hx => ⟨(h.blk x hx).1, Nat.lt_of_lt_of_le (h.blk x hx).2.1 hg.size, (h.blk x hx).2.2⟩, fun x hx i hi => ⟨cell_grown hg (h.cell x hx i hi).1 (by rw [addS_block]; exact hn x hx), cell_grown hg (h.cell x hx i hi).2 (by show row ≠ some (x.add (i * 2)).block; rw [addS_block]; exact hn x hx)⟩⟩
theorem WtQ.grown {w w' : World} {g n c B U : Nat} {Q : List (List Ms)} {row : Option Nat} (h : WtQ w g n c B U Q) (hg : w.grownBy w' row) (hr : ∀ k, row = some k → U ≤ k) : WtQ w' g n c B U Q := by
  obtain ⟨vs, h1, h2⟩ := h.row
  have hne : ∀ k, k < U → row ≠ some k := fun k hk e => by have := hr k e; omega
  refine ⟨h.len, h.lo, h.hi, vs, owns_beside h1 hg (fun k hk => ?_), fun i hi => ?_⟩
  · simp only [Value.ownBlock, Option.some.injEq] at hk
    subst hk
    exact fun e => hne _ h.hi e.symm
  · obtain ⟨a, m, c', k1, k2, k3⟩ := h2 i hi
    exact ⟨a, m, c', k1, k2.grown hg (fun x hx => hne _ (k3 x hx).2), k3⟩
/-- a row without its first message -/
theorem msrow_tail {w : World} {g off m c : Nat} {y : Ms} {tl : List Ms} {B : Nat} (h : MsRow w (some ⟨g, off, none⟩) m c (y :: tl) B) : (c = 1 → tl = [] ∧ MsRow w (some ⟨g, off, none⟩) 0 0 tl B) ∧ (¬ c = 1 → MsRow w (some ⟨g, off + 2, none⟩) tl.length (c - 1) tl B) := by
  have hm : m = tl.length + 1 := by rw [← h.len]; rfl
  have hle := h.le
  have hmx := h.max
  obtain ⟨b1, b2, -⟩ := h.blk _ rfl
  refine ⟨fun hc => ?_, fun hc => ?_⟩
  · have ht : tl = [] := List.eq_nil_of_length_eq_zero (by omega)
    subst ht
    exact ⟨rfl, rfl, Nat.le_refl _, Nat.zero_le _, fun e => (by cases e), fun x hx => (by cases hx; exact ⟨b1, b2, rfl⟩), fun x hx i hi => absurd hi (Nat.not_lt_zero _)⟩
  · refine ⟨rfl, by omega, by omega, fun e => (by cases e), fun x hx => (by cases hx; exact ⟨b1, b2, rfl⟩), fun x hx i hi => ?_⟩
    cases hx
    have := h.cell _ rfl (i + 1) (by omega)
    have e1 : (⟨g, off + 2, none⟩ : Addr).add (i * 2) = (⟨g, off, none⟩ : Addr).add ((i + 1) * 2) := by
      have : (⟨g, off + 2, none⟩ : Addr) = (⟨g, off, none⟩ : Addr).add 2 := by unfold Addr.add; simp
      rw [this, Addr.add_add]
      congr 1
      omega
    rw [e1]
    exact this
theorem WtQ.put {w : World} {g n c B U : Nat} {Q : List (List Ms)} (h : WtQ w g n c B U Q) {i : Nat} (hi : i < n) {a : Option Addr} {m c' : Nat} {tl : List Ms} (hm : MsRow w a m c' tl B) (ha : ∀ x, a = some x → x.block ≠ g ∧ x.block < U) : WtQ (w.setCell ⟨g, i, none⟩ (.slice a m c')) g n c B U (Q.set i tl) ∧ Tch [g] w (w.setCell ⟨g, i, none⟩ (.slice a m c')) := by
  have ht : Tch [g] w (w.setCell ⟨g, i, none⟩ (.slice a m c')) := (Tch.refl [g] w).setK (List.mem_singleton.2 rfl) i _
  obtain ⟨vs, h1, h2⟩ := h.row
  have hvl : vs.length = n := by have := h1.1; simpa using this
  refine ⟨⟨by rw [List.length_set]; exact h.len, h.lo, h.hi, vs.set i (.slice a m c'), (h1.stored i _).1, fun j hj => ?_⟩, ht⟩
  by_cases e : i = j
  · subst e
    refine ⟨a, m, c', by rw [List.getElem?_set_self (by omega)], ?_, ha⟩
    have : (Q.set i tl).getD i [] = tl := by simp [List.getD, h.len, hi]
    rw [this]
    exact hm.turn ht (fun x hx => by simp [(ha x hx).1])
  · obtain ⟨a', m', c2, k1, k2, k3⟩ := h2 j hj
    refine ⟨a', m', c2, by rw [List.getElem?_set_ne e]; exact k1, ?_, k3⟩
    have : (Q.set i tl).getD j [] = Q.getD j [] := by simp [List.getD, List.getElem?_set_ne e]
    rw [this]
    exact k2.turn ht (fun x hx => by simp [(k3 x hx).1])
/-- what is at hand of one row: its first message, and what is left -/
structure HeadAt (w : World) (g i q off TL c' : Nat) (y : Ms) : Prop where
  p : w.cell? ⟨g, i, none⟩ = some (.slice (some ⟨q, off, none⟩) (TL + 1) c')
  d : w.cell? ⟨q, off, none⟩ = some (.int .i64 (y.1 : Nat))
  le : TL + 1 ≤ c'
  max : c' ≤ maxLen
theorem WtQ.take {w : World} {g n c B U : Nat} {Q : List (List Ms)} (h : WtQ w g n c B U Q) {i : Nat} (hi : i < n) {y : Ms} {tl : List Ms} (hq : Q.getD i [] = y :: tl) : ∃ q off c', HeadAt w g i q off tl.length c' y ∧ (c' = 1 → tl.length = 0 ∧ WtQ (w.setCell ⟨g, i, none⟩ (.slice (some ⟨q, off, none⟩) 0 0)) g n c B U (Q.set i tl)) ∧ (¬ c' = 1 → WtQ (w.setCell ⟨g, i, none⟩ (.slice (some ⟨q, off + 2, none⟩) tl.length (c' - 1))) g n c B U (Q.set i tl)) := by
  obtain ⟨a, m, c', k1, k2, k3⟩ := h.cellAt hi
  rw [hq] at k2
  obtain ⟨q, off, rfl, rfl, b1, b2, d0, d1⟩ := k2.head
  obtain ⟨t1, t2⟩ := msrow_tail k2
  have hk := k3 _ rfl
  refine ⟨q, off, c', ⟨k1, d0, k2.le, k2.max⟩, fun hc => ?_, fun hc => ?_⟩
  · obtain ⟨e1, e2⟩ := t1 hc
    exact ⟨by rw [e1]; rfl, (h.put hi e2 (fun x hx => by cases hx; exact hk)).1⟩
  · exact (h.put hi (t2 hc) (fun x hx => by cases hx; exact hk)).1
/-- slots as cells -/
def slC (C : Nat → Nat) (x : Sl) : List Value := [.int .i64 (x.k : Nat), .int .i64 (x.d : Nat), .int .i64 (x.s : Nat), .int .i64 ((x.s + C x.k : Nat) : Int)]
def slCs (C : Nat → Nat) (L : List Sl) : List Value := L.flatMap (slC C)
theorem slCs_snoc (C : Nat → Nat) (L : List Sl) (x : Sl) : slCs C (L ++ [x]) = slCs C L ++ slC C x := by unfold slCs; simp
theorem slCs_len (C : Nat → Nat) : ∀ L : List Sl, (slCs C L).length = L.length * 4
  | [] => rfl
  | x :: L => by
    have := slCs_len C L
    unfold slCs at this ⊢
    rw [List.flatMap_cons, List.length_append, this, List.length_cons]
    simp only [slC, List.length_cons, List.length_nil]
    omega
/-- between messages -/
structure SdS (w0 w wr : World) (g n c B : Nat) (C : Nat → Nat) (vS : Value) (S : List Sl) (Q : List (List Ms)) : Prop where
  b0 : w0.heap.size ≤ B
  bw : B ≤ w.heap.size
  old : Below w0.heap.size w0 wr
  size : w.heap.size ≤ wr.heap.size
  q : WtQ wr g n c B w.heap.size Q
  out : wr.ownsRow w.heap.size 38 4 vS S.length (slCs C S)
theorem SdS.kept {w0 w wr w' : World} {g n c B : Nat} {C : Nat → Nat} {vS : Value} {S : List Sl} {Q : List (List Ms)} (h : SdS w0 w wr g n c B C vS S Q) (hb : Below wr.heap.size wr w') : SdS w0 w w' g n c B C vS S Q :=
  ⟨h.b0, h.bw, bl2 h.old hb, Nat.le_trans h.size hb.size, h.q.kept hb, ownsRow_below h.out hb⟩
theorem SdS.app {w0 w w2 w3 : World} {g n c B : Nat} {C : Nat → Nat} {vS v3 : Value} {S : List Sl} {Q : List (List Ms)} {x : Sl} (h : SdS w0 w w2 g n c B C vS S Q) (hrow : w3.ownsRow w.heap.size 38 4 v3 (S.length + 1) (slCs C S ++ slC C x)) (hg : w2.grownBy w3 vS.ownBlock) : SdS w0 w w3 g n c B C v3 (S ++ [x]) Q := by
  have hr : ∀ k, vS.ownBlock = some k → w.heap.size ≤ k := fun k hk => (h.out.lt k hk).1
  refine ⟨h.b0, h.bw, h.old.grown hg h.old.size (fun k hk => ?_), Nat.le_trans h.size hg.size, h.q.grown hg hr, ?_⟩
  · have := hr k hk; have := h.b0; have := h.bw; omega
  · rw [slCs_snoc, List.length_append, List.length_singleton]; exact hrow
theorem SdS.put {w0 w wr : World} {g n c B i : Nat} {u : Value} {C : Nat → Nat} {vS : Value} {S : List Sl} {Q Q' : List (List Ms)} (h : SdS w0 w wr g n c B C vS S Q) (hq : WtQ (wr.setCell ⟨g, i, none⟩ u) g n c B w.heap.size Q') : SdS w0 w (wr.setCell ⟨g, i, none⟩ u) g n c B C vS S Q' := by
  have ht : Tch [g] wr (wr.setCell ⟨g, i, none⟩ u) := (Tch.refl [g] wr).setK (List.mem_singleton.2 rfl) i u
  refine ⟨h.b0, h.bw, ht.below h.old (fun k hk => by rw [List.mem_singleton] at hk; subst hk; exact Nat.le_trans h.b0 h.q.lo) (Nat.le_refl _), Nat.le_trans h.size ht.size, hq, ownsRow_tch h.out ht (fun k hk hm => ?_)⟩
  rw [List.mem_singleton] at hm
  subst hm
  have := (h.out.lt k hk).1
  have := h.q.hi
  omega
end Bw
end Go.Proofs.YtnhnemmddgofnaaDoor
