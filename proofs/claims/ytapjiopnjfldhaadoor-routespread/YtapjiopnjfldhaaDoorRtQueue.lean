/- Lines to come, in a row that is taken from ahead and put to behind; for RouteGoes. -/
import Derived.Test.YtapjiopnjfldhaaDoorRtSpot
import Derived.Test.YtapjiopnjfldhaaDoorRtClone
import Derived.ArgAppend
namespace Go.Proofs.YtapjiopnjfldhaaDoor
open Go.ChangeShapes Go.WideShapes Go.ChangeAt Go.RowKit
namespace Bw
open Bm
set_option linter.unusedVariables false
theorem setCells_row (b : Nat) (t : TypeId) : ∀ (vs : List Value) (s : Nat) (cur : Array Value) (w : World), w.heap[b]? = some (.cells cur t (0, 0)) → s + vs.length ≤ cur.size →
    w.grownBy (w.setCells b s vs) (some b) ∧ ∃ cur', (w.setCells b s vs).heap[b]? = some (.cells cur' t (0, 0)) ∧ cur'.size = cur.size ∧ (∀ k, k < s → cur'[k]? = cur[k]?) ∧ (∀ j u, vs[j]? = some u → cur'[s + j]? = some u)
  | [], s, cur, w, h, _ => ⟨⟨rfl, rfl, rfl, Nat.le_refl _, fun _ _ _ => rfl⟩, cur, h, rfl, fun _ _ => rfl, fun j u hu => by simp at hu⟩
  | v :: vs, s, cur, w, h, hs => by
    have h1 : (w.setCell ⟨b, s, none⟩ v).heap[b]? = some (.cells (cur.setIfInBounds s v) t (0, 0)) := heap_setCell_same _ b s _ _ v h
    have hs' : s + 1 + vs.length ≤ (cur.setIfInBounds s v).size := by simp at hs ⊢; omega
    obtain ⟨hg, cur', k1, k2, k3, k4⟩ := setCells_row b t vs (s + 1) (cur.setIfInBounds s v) (w.setCell ⟨b, s, none⟩ v) h1 hs'
    have hg0 : w.grownBy (w.setCell ⟨b, s, none⟩ v) (some b) := grown_set w ⟨b, s, none⟩ v
    refine ⟨⟨hg.os.trans hg0.os, hg.tape.trans hg0.tape, hg.output.trans hg0.output, Nat.le_trans hg0.size hg.size, fun k hk hne => ?_⟩, cur', k1, by rw [k2]; simp, fun k hk => ?_, fun j u hu => ?_⟩
    · have h2 := hg.block k (Nat.lt_of_lt_of_le hk hg0.size) hne
      exact h2.trans (hg0.block k hk hne)
    · rw [k3 k (by omega), Array.getElem?_setIfInBounds_ne (by omega)]
    · cases j with
      | zero =>
        simp only [List.getElem?_cons_zero, Option.some.injEq] at hu
        subst hu
        rw [Nat.add_zero, k3 s (by omega), Array.getElem?_setIfInBounds_self_of_lt (by simp at hs; omega)]
      | succ j =>
        have := k4 j u (by simpa using hu)
        rw [← this]
        congr 1
        omega
structure QuAt (w : World) (base g : Nat) (v : Value) (l : List LnR) (dt : List UInt8) : Prop where
  ex : ∃ off c cur, v = .slice (some ⟨g, off, none⟩) l.length c ∧ w.heap[g]? = some (.cells cur 49 (0, 0)) ∧ l.length ≤ c ∧ c ≤ maxLen ∧ off + c * 8 ≤ cur.size ∧ ∀ j u, (lnsC l)[j]? = some u → cur[off + j]? = some u
  hg : base ≤ g
  bytes : ∀ x ∈ l, IsBytes w x.a x.len x.cap dt
  apart : ∀ x ∈ l, 0 < x.len → ∀ y, x.a = some y → y.block ≠ g
theorem QuAt.lt {w : World} {base g : Nat} {v : Value} {l : List LnR} {dt : List UInt8} (h : QuAt w base g v l dt) : g < w.heap.size := by
  obtain ⟨off, c, cur, -, h2, -⟩ := h.ex
  exact (Array.getElem?_eq_some_iff.1 h2).1
theorem QuAt.kept {w w' : World} {base g : Nat} {v : Value} {l : List LnR} {dt : List UInt8} (h : QuAt w base g v l dt) (hb : Below w.heap.size w w') : QuAt w' base g v l dt :=
  { h with
    ex := by
      obtain ⟨off, c, cur, h1, h2, h3⟩ := h.ex
      exact ⟨off, c, cur, h1, (hb.block g h.lt).trans h2, h3⟩
    bytes := fun x hx => isBytes_below (h.bytes x hx) hb }
theorem bytes_block {w : World} {a : Option Addr} {len cap : Nat} {dt : List UInt8} (h : IsBytes w a len cap dt) (h0 : 0 < len) {y : Addr} (hy : a = some y) {b : Nat} {es : Array MapEntry} {clock : Nat} (hm : w.heap[b]? = some (.map es clock)) : y.block ≠ b := by
  intro e
  have hv := h.2.2.2.2 y hy 0 h0
  have hb : (y.add 0).block = y.block := by unfold Addr.add; split <;> rfl
  unfold World.cell? at hv
  rw [hb, e, hm] at hv
  simp at hv
theorem QuAt.map {w w' : World} {base g bm n : Nat} {D : DVp} {v : Value} {l : List LnR} {dt : List UInt8} (h : QuAt w base g v l dt) (hm : SpMap w bm n D) (hb : bm < base) (hg : w.grownBy w' (some bm)) : QuAt w' base g v l dt := by
  obtain ⟨es, clock, hmb, -⟩ := hm
  refine { h with ex := ?_, bytes := fun x hx => ?_ }
  · obtain ⟨off, c, cur, h1, h2, h3⟩ := h.ex
    exact ⟨off, c, cur, h1, (hg.block g h.lt (fun e => by have := Option.some.inj e; have := h.hg; omega)).trans h2, h3⟩
  · exact bytes_grown (h.bytes x hx) hg (fun h0 y hy e => bytes_block (h.bytes x hx) h0 hy hmb (Option.some.inj e).symm)
/-- the first of them, and what is left -/
theorem QuAt.head {w : World} {base g : Nat} {v : Value} {x : LnR} {l : List LnR} {dt : List UInt8} (h : QuAt w base g v (x :: l) dt) : ∃ off c, v = .slice (some ⟨g, off, none⟩) (l.length + 1) c ∧ LnOn w ⟨g, off, none⟩ x ∧ ((c = 1 ∧ l = [] ∧ QuAt w base g (.slice (some ⟨g, off, none⟩) 0 0) [] dt) ∨ (¬ c = 1 ∧ QuAt w base g (.slice (some ⟨g, off + 8, none⟩) l.length (c - 1)) l dt)) := by
  obtain ⟨off, c, cur, rfl, h2, h3, h4, h5, h6⟩ := h.ex
  simp only [List.length_cons] at h3
  refine ⟨off, c, rfl, ?_, ?_⟩
  · have hc : ∀ j u, j < 8 → x.cl[j]? = some u → w.cell? ⟨g, off + j, none⟩ = some u := by
      intro j u hj hu
      rw [cell_of_row w g (off + j) cur _ _ h2]
      refine h6 j u ?_
      have e : lnsC (x :: l) = x.cl ++ lnsC l := by simp [lnsC]
      rw [e, List.getElem?_append_left (by show j < 8; exact hj)]
      exact hu
    exact ⟨hc 0 _ (by omega) rfl, hc 1 _ (by omega) rfl, hc 2 _ (by omega) rfl, hc 3 _ (by omega) rfl, hc 4 _ (by omega) rfl, hc 5 _ (by omega) rfl, hc 6 _ (by omega) rfl, hc 7 _ (by omega) rfl⟩
  · have hby : ∀ y ∈ l, IsBytes w y.a y.len y.cap dt := fun y hy => h.bytes y (List.mem_cons_of_mem _ hy)
    have hap : ∀ y ∈ l, 0 < y.len → ∀ z, y.a = some z → z.block ≠ g := fun y hy => h.apart y (List.mem_cons_of_mem _ hy)
    by_cases hc : c = 1
    · have hl : l = [] := List.eq_nil_of_length_eq_zero (by omega)
      refine .inl ⟨hc, hl, ⟨⟨off, 0, cur, rfl, h2, Nat.le_refl _, Nat.zero_le _, by omega, fun j u hj => ?_⟩, h.hg, (fun x hx => by cases hx), fun x hx => by cases hx⟩⟩
      simp [lnsC] at hj
    · refine .inr ⟨hc, ⟨⟨off + 8, c - 1, cur, rfl, h2, by omega, by omega, by omega, fun j u hj => ?_⟩, h.hg, hby, hap⟩⟩
      have e2 : lnsC (x :: l) = x.cl ++ lnsC l := by simp [lnsC]
      have h8 : x.cl.length = 8 := rfl
      have := h6 (8 + j) u (by rw [e2, List.getElem?_append_right (by rw [h8]; omega), h8, Nat.add_sub_cancel_left]; exact hj)
      have h9 : off + 8 + j = off + (8 + j) := by omega
      rw [h9]
      exact this
theorem run_append_nilm {P : Program} (w : World) (t ty e : TypeId) (i : TypeInfo) (ht : P.underlying t = some (.slice e)) (hi : P.info? e = some i) (b : Addr) (n cap c : Nat) (hn : n ≤ cap) :
    (Builtin.append_ #[t, t] ty #[.slice (some b) n cap, .slice none 0 c]).run P w = .ok (.slice (some b) n cap) w := by
  have hfc : (Builtin.firstCells i.size 0 (.slice none 0 c)).run P w = .ok #[] w := by simp [Builtin.firstCells]
  simp [Builtin.append_, run_underlying ht, sizeOf, typeInfo, hi, Builtin.lenOf, hn, hfc, storeCells]
end Bw
end Go.Proofs.YtapjiopnjfldhaaDoor
