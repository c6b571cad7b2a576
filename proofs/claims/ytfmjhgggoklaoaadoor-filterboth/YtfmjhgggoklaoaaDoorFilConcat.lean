/- What slices.Concat answers of two lists of filters. -/
import Derived.Test.YtfmjhgggoklaoaaDoorFilGrow
namespace Go.Proofs.YtfmjhgggoklaoaaDoor
open Go.ChangeShapes Go.WideShapes Go.ChangeAt Go.RowKit
namespace Bw
/-- filters as cells, as they came in -/
def flC (l : List Fl) : List Value := l.flatMap Fl.cells
theorem flC_len : ∀ l : List Fl, (flC l).length = l.length * 3
  | [] => rfl
  | x :: l => by
    have := flC_len l
    unfold flC at this ⊢
    rw [List.flatMap_cons, List.length_append, this]
    simp [Fl.cells]; omega
theorem flC_at : ∀ (l : List Fl) (j : Nat) (u : Value), (flC l)[j]? = some u → ∃ i, i < l.length ∧ ((j = i * 3 ∧ u = .int .i64 (l.getD i noF).w) ∨ (j = i * 3 + 1 ∧ u = .int .i64 (l.getD i noF).m) ∨ (j = i * 3 + 2 ∧ u = .bool (l.getD i noF).lo))
  | [], j, u, h => by simp [flC] at h
  | x :: l, j, u, h => by
    have ih := flC_at l
    have e : flC (x :: l) = [.int .i64 x.w, .int .i64 x.m, .bool x.lo] ++ flC l := by simp [flC, Fl.cells]
    rw [e] at h
    by_cases h3 : j < 3
    · rw [List.getElem?_append_left (by simpa using h3)] at h
      refine ⟨0, by simp, ?_⟩
      match j, h3, h with
      | 0, _, h => left; exact ⟨rfl, by simpa using h.symm⟩
      | 1, _, h => right; left; exact ⟨rfl, by simpa using h.symm⟩
      | 2, _, h => right; right; exact ⟨rfl, by simpa using h.symm⟩
    · rw [List.getElem?_append_right (by simp; omega)] at h
      obtain ⟨i, hi, hh⟩ := ih (j - 3) u (by simpa using h)
      refine ⟨i + 1, by simp; omega, ?_⟩
      have eg : (x :: l).getD (i + 1) noF = l.getD i noF := by simp [List.getD]
      rw [eg]
      rcases hh with ⟨h1, h2⟩ | ⟨h1, h2⟩ | ⟨h1, h2⟩
      · left; exact ⟨by omega, h2⟩
      · right; left; exact ⟨by omega, h2⟩
      · right; right; exact ⟨by omega, h2⟩
theorem flC_cell : ∀ (l : List Fl) (i : Nat), i < l.length → (flC l)[i * 3]? = some (.int .i64 (l.getD i noF).w) ∧ (flC l)[i * 3 + 1]? = some (.int .i64 (l.getD i noF).m) ∧ (flC l)[i * 3 + 2]? = some (.bool (l.getD i noF).lo)
  | [], i, h => absurd h (Nat.not_lt_zero _)
  | x :: l, i, h => by
    have e : flC (x :: l) = [.int .i64 x.w, .int .i64 x.m, .bool x.lo] ++ flC l := by simp [flC, Fl.cells]
    rw [e]
    cases i with
    | zero => simp
    | succ i =>
      have ih := flC_cell l i (by simpa using h)
      have e : (i + 1) * 3 = i * 3 + 1 + 1 + 1 := by omega
      rw [e]
      simpa using ih
theorem flC_one (l : List Fl) : ∀ u ∈ flC l, u.oneCell' = true := by
  intro u hu
  unfold flC at hu
  rw [List.mem_flatMap] at hu
  obtain ⟨x, _, hx⟩ := hu
  unfold Fl.cells at hx
  simp at hx
  rcases hx with rfl | rfl | rfl <;> rfl
theorem fils_news {w : World} {y : Addr} {n cap : Nat} {l : List Fl} (h : IsFils w (some y) n cap l) : ∀ j u, (flC l)[j]? = some u → w.cell? (y.add j) = some u := by
  intro j u hj
  obtain ⟨i, hi, hh⟩ := flC_at l j u hj
  obtain ⟨c0, c1, c2⟩ := h.cell y rfl i (by rw [← h.len]; exact hi)
  rcases hh with ⟨rfl, rfl⟩ | ⟨rfl, rfl⟩ | ⟨rfl, rfl⟩
  · exact c0
  · exact c1
  · exact c2
/-- a row that has room -/
def RoomAt (w : World) (G C len : Nat) (xs : List Value) : Prop := ∃ cur, w.heap[G]? = some (.cells cur 34 (0, 0)) ∧ cur.size = C * 3 ∧ len ≤ C ∧ cur.toList.take (len * 3) = xs ∧ xs.length = len * 3
theorem room_append {w : World} {G C len : Nat} {xs : List Value} (h : RoomAt w G C len xs) {x : Option Addr} {m c : Nat} {l : List Fl} (hF : IsFils w x m c l) (hroom : len + m ≤ C) (ty : TypeId) :
    ∃ w', (Builtin.append_ #[22, 22] ty #[.slice (some ⟨G, 0, none⟩) len C, .slice x m c]).run Tryd.prog w = .ok (.slice (some ⟨G, 0, none⟩) (len + m) C) w' ∧ RoomAt w' G C (len + m) (xs ++ flC l) ∧ w.grownBy w' (some G) := by
  obtain ⟨i0, hi, hz0, hz1, hz2⟩ := info_parts info_fil
  obtain ⟨cur, hh, hcs, hlc, htk, hxl⟩ := h
  have hlen := hF.len
  cases x with
  | none =>
    have hm := hF.none rfl
    subst hm
    have hl : l = [] := by simpa using hlen
    subst hl
    refine ⟨w, ?_, ⟨cur, hh, hcs, hlc, by simpa [flC] using htk, by simpa [flC] using hxl⟩, ⟨rfl, rfl, rfl, Nat.le_refl _, fun _ _ _ => rfl⟩⟩
    simp [Builtin.append_, run_underlying Tryd.underlying22, sizeOf, typeInfo, hi, Builtin.lenOf, Builtin.firstCells, hlc, storeCells]
  | some y =>
    have hfit : len * i0.size + (flC l).length ≤ cur.size := by rw [flC_len, hz1, hcs, hlen]; omega
    have hr := run_append_room (P := Tryd.prog) w 22 ty 34 i0 Tryd.underlying22 hi G len C cur hh y m c (flC l) (by rw [flC_len, hz1, hlen]) (fils_news hF) (flC_one l) hroom hfit
    refine ⟨_, hr, ⟨_, setRow_heap w G cur _ _ _ hh, ?_, hroom, ?_, ?_⟩, ⟨rfl, rfl, rfl, by simp, fun k _ hk => setRow_other w G k _ (fun e => hk (by rw [e]))⟩⟩
    · rw [hz1] at hfit ⊢
      simp only [List.size_toArray, List.length_append, List.length_take, List.length_drop, Array.length_toList]
      omega
    · rw [hz1, htk]
      have e : (len + m) * 3 = (xs ++ flC l).length := by rw [List.length_append, hxl, flC_len, hlen]; omega
      rw [e]
      exact List.take_left
    · rw [List.length_append, hxl, flC_len, hlen]; omega
theorem fils_room {w : World} {G C n : Nat} {l : List Fl} (h : RoomAt w G C n (flC l)) (hC : C ≤ maxLen) : IsFils w (some ⟨G, 0, none⟩) n C l := by
  obtain ⟨cur, hh, hcs, hlc, htk, hxl⟩ := h
  have hln : l.length = n := by rw [flC_len] at hxl; omega
  refine ⟨hln, hlc, hC, (fun h => by cases h), fun x hx i hi => ?_⟩
  cases hx
  have ea : ∀ j, (Addr.add ⟨G, 0, none⟩ j) = ⟨G, j, none⟩ := by intro j; simp [Addr.add]; exact fun h => h.symm
  obtain ⟨c0, c1, c2⟩ := flC_cell l i (by omega)
  have hc : ∀ j u, j < n * 3 → (flC l)[j]? = some u → w.cell? ⟨G, j, none⟩ = some u := by
    intro j u hj hu
    rw [cell_of_row w G j _ _ _ hh, ← Array.getElem?_toList]
    rw [← htk, List.getElem?_take_of_lt hj] at hu
    exact hu
  rw [ea, ea, ea]
  exact ⟨hc _ _ (by omega) c0, hc _ _ (by omega) c1, hc _ _ (by omega) c2⟩
theorem none_append {w : World} {x : Option Addr} {c : Nat} {l : List Fl} (hF : IsFils w x 0 c l) (ty : TypeId) : (Builtin.append_ #[22, 22] ty #[.slice none 0 0, .slice x 0 c]).run Tryd.prog w = .ok (.slice none 0 0) w := by
  obtain ⟨i0, hi, hz0, hz1, hz2⟩ := info_parts info_fil
  cases x <;> simp [Builtin.append_, run_underlying Tryd.underlying22, sizeOf, typeInfo, hi, Builtin.lenOf, Builtin.firstCells, loadCells, loadCellsFrom]
end Bw
end Go.Proofs.YtfmjhgggoklaoaaDoor
