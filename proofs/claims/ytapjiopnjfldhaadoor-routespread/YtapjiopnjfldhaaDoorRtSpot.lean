/- A set of places in a map of the law's own; the places to come, on plain lists; for RouteGoes. -/
import Derived.Test.YtapjiopnjfldhaaDoorRtRoundM
namespace Go.Proofs.YtapjiopnjfldhaaDoor
open Go.ChangeShapes Go.WideShapes Go.ChangeAt Go.RowKit
namespace Bw
open Bm
set_option linter.unusedVariables false
/-- a spot as a key -/
theorem sp_laid : laidOutB Tryd.prog = true := by kernel_rfl
theorem sp_row : (65 : TypeId) < Tryd.prog.types.size := of_decide_eq_true (by kernel_rfl)
theorem sp_wide : (match Tryd.prog.underlying 65 with | some (.array _ _) | some (.struct _) => true | _ => false) = true := by rw [Tryd.underlying65]
theorem sp_at : Tryd.prog.keyTypeAt 2 65 = true := by kernel_rfl
set_option maxRecDepth 100000 in
theorem sp_klaw : WideMaps.KeyLaw Tryd.prog 65 := deep_law_laid (P := Tryd.prog) (m := 2) (k := 65) sp_laid (Nat.le_of_ble_eq_true rfl) sp_row sp_at sp_wide
theorem sp_law : Maps.Keyed Tryd.prog 65 := Maps.Keyed.of_law sp_klaw
theorem sp_cells : Tryd.prog.cellsOf 65 = 2 := by kernel_rfl
theorem sp_deep : Tryd.prog.keyType 65 = true := by kernel_rfl
theorem sp_sz : decide (2 ≤ Tryd.prog.types.size) = true := by kernel_rfl
def kyS (p : Pl) : Lit := .string (keyBytes [.int .i64 p.1, .int .i64 p.2])
theorem kyS_some {p : Pl} (h : okQ p) : keyOf Tryd.prog 65 (plV p) = some (kyS p) := by
  obtain ⟨⟨a0, a1⟩, b0, b1⟩ := h
  obtain ⟨x, y⟩ := p
  simp only at a0 a1 b0 b1
  have w1 : (Lit.int .i64 x).wf = true := wf_i64 (by omega) (by omega)
  have w2 : (Lit.int .i64 y).wf = true := wf_i64 (by omega) (by omega)
  have hf : (plV (x, y)).formed Tryd.prog 65 = true := by simp [plV, Value.formed, Tryd.underlying65, sp_cells]
  have hl : Tryd.prog.keyLits (Tryd.prog.types.size + 1) 65 (plV (x, y)).cells.toList = some [.int .i64 x, .int .i64 y] := by
    obtain ⟨m, hm⟩ : ∃ m, Tryd.prog.types.size + 1 = m + 2 := ⟨Tryd.prog.types.size - 1, by have := of_decide_eq_true sp_sz; omega⟩
    rw [hm]
    simp [Program.keyLits, Tryd.underlying65, sp_cells, plV, Value.cells, Tryd.underlying3, w1, w2, show Tryd.prog.cellsOf 3 = 1 by kernel_rfl]
  unfold keyOf
  rw [Tryd.underlying65]
  simp only [sp_deep, hf, Bool.and_self, if_true]
  rw [hl]
  rfl
theorem kyS_key {p : Pl} (h : okQ p) : WideAt.IsKeyLit (kyS p) := by
  have h1 := kyS_some h
  generalize kyS p = l at h1
  exact sp_law.key h1
theorem kyS_inj {p q : Pl} (hp : okQ p) (hq : okQ q) (h : kyS p = kyS q) : p = q := by
  have h1 := kyS_some hp
  rw [h] at h1
  have h2 := sp_law.inj h1 (kyS_some hq)
  unfold plV at h2
  simp only [Value.agg.injEq] at h2
  have h3 := congrArg Array.toList h2
  simp only [List.cons.injEq, Value.int.injEq, true_and, and_true] at h3
  exact Prod.ext h3.1 h3.2
def SpMap (w : World) (b n : Nat) (D : DVp) : Prop := w.ownsMap Tryd.prog 65 RVp b n D
theorem SpMap.kept {w w' : World} {b n : Nat} {D : DVp} (h : SpMap w b n D) (hb : Below w.heap.size w w') : SpMap w' b n D :=
  World.ownsMap.kept h (row := none) ⟨hb.os, hb.tape, hb.output, hb.size, fun k hk _ => hb.block k hk⟩ (by simp)
theorem SpMap.grown {w w' : World} {b n : Nat} {D : DVp} (h : SpMap w b n D) {row : Option Nat} (hg : w.grownBy w' row) (hne : some b ≠ row) : SpMap w' b n D := World.ownsMap.kept h hg hne
/-- a map that has just these places -/
structure Seen (D : DVp) (S : List Pl) : Prop where
  at' : ∀ q, okQ q → D.atKey (kyS q) (.held (.bool false)) = .held (.bool (decide (q ∈ S)))
  has : ∀ q, okQ q → Maps.has D (kyS q) = decide (q ∈ S)
  size : Maps.size D = S.length
theorem Seen.nil : Seen (.map []) [] := ⟨fun q _ => by simp; rfl, fun q _ => by simp; rfl, rfl⟩
theorem Seen.add {w : World} {b n : Nat} {D : DVp} {S : List Pl} (h : Seen D S) (hm : SpMap w b n D) {q : Pl} (hS : ∀ p ∈ S, okQ p) (hq : okQ q) (hn : q ∉ S) : Seen (D.put (kyS q) (.held (.bool true))) (S ++ [q]) := by
  have ht := World.ownsMap.isMap hm
  refine ⟨fun x hx => ?_, fun x hx => ?_, ?_⟩
  · by_cases e : x = q
    · subst e; rw [Maps.atKey_put_same ht (kyS_key hq)]; simp
    · rw [Maps.atKey_put_other (fun e2 => e (kyS_inj hx hq e2)), h.at' x hx]; simp [e]
  · by_cases e : x = q
    · subst e; rw [Maps.has_put_same ht (kyS_key hq)]; simp
    · rw [Maps.has_put_other (fun e2 => e (kyS_inj hx hq e2)), h.has x hx]; simp [e]
  · rw [Maps.size_put (World.ownsMap.tidy hm sp_law), h.has q hq, decide_eq_false hn, h.size]
    simp
theorem zero_boolS (w : World) : (zeroValue 4).run Tryd.prog w = .ok (.bool false) w := by kernel_rfl
/-- 'seen[p]' -/
theorem wpList_lookup_sp (w : World) {ops : Array Oper} {rest : List Oper} {o : Oper} {a : Act} {Q : Exit → Act → World → Prop} (hg : o.guard = none) (m x : Operand) (hop : o.op = Op.lookup 64 m x false)
    (b n : Nat) (D : DVp) (hm : a.eval m = .map (some b)) (hown : SpMap w b n D) (key : Value) (kl : Lit) (hx : a.eval x = key) (hkey : keyOf Tryd.prog 65 key = some kl)
    (u : Bool) (hu : D.atKey kl (.held (.bool false)) = .held (.bool u))
    (hK : wpList Tryd.prog ops Q rest (a.put o.dst (.bool u)) w) : wpList Tryd.prog ops Q (o :: rest) a w := by
  refine wpList_plain hg fun K' hK' => ?_
  obtain ⟨v, ps, hrun, hv⟩ := World.ownsMap.lookup hown sp_law Tryd.underlying64 (zero_boolS w) (zd := .held (.bool false)) (zp := []) rfl hkey
  rw [hu] at hv
  unfold RVp at hv
  simp only [Option.some.injEq, Prod.mk.injEq, DataW.held.injEq] at hv
  rw [hv.1] at hrun
  unfold Oper.wp
  simp [execOp, hop, hm, hx, hrun, Result.andThen]
  exact hK' _ _ hK
theorem sp_len {w : World} {b n : Nat} {D : DVp} {S : List Pl} (hm : SpMap w b n D) (h : Seen D S) (ty : TypeId) : (Builtin.len_ #[64] ty #[.map (some b)]).run Tryd.prog w = .ok (.int .i64 ((S.length : Nat) : Int)) w := by
  rw [World.ownsMap.len hm Tryd.underlying64 ty, h.size]
/-- places that have been, and that are to come -/
structure Bfs (nx : Pl → List Pl) (s : Pl) (P S W : List Pl) : Prop where
  nodup : S.Nodup
  subS : ∀ p ∈ S, p ∈ P
  subW : ∀ p ∈ W, p ∈ P
  start : s ∈ S ∨ s ∈ W
  closed : ∀ p ∈ S, ∀ q ∈ nx p, q ∈ S ∨ q ∈ W
theorem Bfs.skip {nx : Pl → List Pl} {s x : Pl} {P S W : List Pl} (h : Bfs nx s P S (x :: W)) (hx : x ∈ S) : Bfs nx s P S W := by
  have key : ∀ q, q ∈ S ∨ q ∈ x :: W → q ∈ S ∨ q ∈ W := by
    rintro q (h1 | h1)
    · exact .inl h1
    · rcases List.mem_cons.1 h1 with rfl | h1
      · exact .inl hx
      · exact .inr h1
  exact ⟨h.nodup, h.subS, fun p hp => h.subW p (List.mem_cons_of_mem _ hp), key s h.start, fun p hp q hq => key q (h.closed p hp q hq)⟩
theorem Bfs.take {nx : Pl → List Pl} {s x : Pl} {P S W : List Pl} (h : Bfs nx s P S (x :: W)) (hx : x ∉ S) (hP : ∀ q ∈ nx x, q ∈ P) : Bfs nx s P (S ++ [x]) (W ++ nx x) := by
  have hxP := h.subW x List.mem_cons_self
  have key : ∀ q, q ∈ S ∨ q ∈ x :: W → q ∈ S ++ [x] ∨ q ∈ W ++ nx x := by
    rintro q (h1 | h1)
    · exact .inl (List.mem_append_left _ h1)
    · rcases List.mem_cons.1 h1 with rfl | h1
      · exact .inl (by simp)
      · exact .inr (List.mem_append_left _ h1)
  refine ⟨?_, ?_, ?_, key s h.start, ?_⟩
  · rw [List.nodup_append]
    exact ⟨h.nodup, by simp, fun a ha b hb e => by rw [List.mem_singleton] at hb; subst hb; subst e; exact hx ha⟩
  · intro p hp
    rcases List.mem_append.1 hp with hp | hp
    · exact h.subS p hp
    · rw [List.mem_singleton] at hp; subst hp; exact hxP
  · intro p hp
    rcases List.mem_append.1 hp with hp | hp
    · exact h.subW p (List.mem_cons_of_mem _ hp)
    · exact hP p hp
  · intro p hp q hq
    rcases List.mem_append.1 hp with hp | hp
    · exact key q (h.closed p hp q hq)
    · rw [List.mem_singleton] at hp; subst hp
      exact .inr (List.mem_append_right _ hq)
theorem len_sub : ∀ (l m : List Pl), l.Nodup → (∀ x ∈ l, x ∈ m) → l.length ≤ m.length
  | [], m, _, _ => Nat.zero_le _
  | a :: l, m, hd, h => by
    rw [List.nodup_cons] at hd
    have ha := h a List.mem_cons_self
    have h1 := len_sub l (m.erase a) hd.2 (fun x hx => by
      have hne : x ≠ a := fun e => hd.1 (e ▸ hx)
      exact (List.mem_erase_of_ne hne).2 (h x (List.mem_cons_of_mem _ hx)))
    rw [List.length_erase_of_mem ha] at h1
    have : 0 < m.length := List.length_pos_of_mem ha
    simp only [List.length_cons]
    omega
theorem Bfs.fin {F : Nat} {nx : Pl → List Pl} {s : Pl} {P S : List Pl} (h : Bfs nx s P S []) (hW : Web F nx s P P.length) : (∀ p ∈ P, p ∈ S) ∧ S.length = P.length := by
  have hs : s ∈ S := by
    rcases h.start with h1 | h1
    · exact h1
    · cases h1
  have hc : ∀ p ∈ S, ∀ q ∈ nx p, q ∈ S := fun p hp q hq => by
    rcases h.closed p hp q hq with h1 | h1
    · exact h1
    · cases h1
  have key : ∀ i, i < P.length → P.getD i s ∈ S := by
    intro i
    induction i using Nat.strongRecOn with
    | ind i ih =>
      intro hi
      by_cases h0 : i = 0
      · subst h0
        obtain ⟨l, rfl⟩ := web_head hW
        simpa using hs
      · obtain ⟨j, hj, hx⟩ := hW.from' i (by omega) hi
        exact hc _ (ih j hj (by omega)) _ hx
  have hall : ∀ p ∈ P, p ∈ S := by
    intro p hp
    obtain ⟨i, hi, rfl⟩ := List.mem_iff_getElem.1 hp
    have := key i hi
    simpa [List.getD, hi] using this
  exact ⟨hall, Nat.le_antisymm (len_sub _ _ h.nodup h.subS) (len_sub _ _ hW.nodup hall)⟩
theorem Bfs.room {nx : Pl → List Pl} {s x : Pl} {P S W : List Pl} (h : Bfs nx s P S (x :: W)) (hx : x ∉ S) : S.length < P.length := by
  have := len_sub (x :: S) P (List.nodup_cons.2 ⟨hx, h.nodup⟩) (fun y hy => by
    rcases List.mem_cons.1 hy with rfl | hy
    · exact h.subW _ List.mem_cons_self
    · exact h.subS y hy)
  simp only [List.length_cons] at this
  omega
end Bw
end Go.Proofs.YtapjiopnjfldhaaDoor
