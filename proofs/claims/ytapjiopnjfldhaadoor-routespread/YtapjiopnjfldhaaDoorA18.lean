/- RouteSpread's second map, 'left': what it holds; a range over a map of spots; whether one of a row of spots is left. -/
import Derived.Test.YtapjiopnjfldhaaDoorRtSpot
import Derived.WideKeyEntry
import Derived.Test.YtapjiopnjfldhaaDoorRtQueue2
import Derived.Maps.RangeWalk
namespace Go.Proofs.YtapjiopnjfldhaaDoor
open Go.ChangeShapes Go.WideShapes Go.ChangeAt Go.RowKit
namespace Bw
open Bm
open Go.ChangeMaps
open Go.WideElems (Fit rd rg pl)
set_option linter.unusedVariables false
theorem key_one {l : List MapEntry} (hn : (l.map (·.key)).Nodup) {x y : MapEntry} (hx : x ∈ l) (hy : y ∈ l) (h : x.key = y.key) : x = y := by
  induction l with
  | nil => cases hx
  | cons a l ih =>
    rw [List.map_cons, List.nodup_cons] at hn
    rcases List.mem_cons.1 hx with hx1 | hx1 <;> rcases List.mem_cons.1 hy with hy1 | hy1
    · rw [hx1, hy1]
    · exact absurd (List.mem_map.2 ⟨y, hy1, by rw [← h, hx1]⟩) hn.1
    · exact absurd (List.mem_map.2 ⟨x, hx1, by rw [h, hy1]⟩) hn.1
    · exact ih hn.2 hx1 hy1
theorem entry_owned {H : Type} {P : Program} {w : World} {t k e : TypeId} {R : Value → Option (DataW H × List MemPlace)} {b n : Nat} {D : DataW H} (h : w.ownsMap P k R b n D) (K : Maps.Keyed P k) (KL : WideMaps.KeyLaw P k) (ht : P.underlying t = some (.map k e)) (hn : n < maxLen) {z : Value} (hz : ∀ u : World, (zeroValue e).run P u = .ok z u) {zd : DataW H} {zp : List MemPlace} (hzd : R z = some (zd, zp))
    {key : Value} {kl : Lit} (hkey : keyOf P k key = some kl) :
    ∃ (v : Value) (st : Nat) (w1 : World), (Instr.mapEntry t (.map (some b)) key).run P w = .ok (.tuple #[v, goInt st]) w1 ∧ w.grownBy w1 (some b) ∧ (∃ ps, R v = some (D.atKey kl zd, ps)) ∧
      ∀ (w2 : World) (val : Value) (d : DataW H) (ps : List MemPlace), w2.heap[b]? = w1.heap[b]? → R val = some (d, ps) →
        ∃ w3, (Instr.entryStore t (.map (some b)) (goInt st) val).run P w2 = .ok () w3 ∧ w3.ownsMap P k R b (n + 1) (D.put kl d) ∧ w2.grownBy w3 (some b) := by
  have h' := h
  obtain ⟨es, clock, hb, F, hs, hD⟩ := h'
  obtain ⟨v0, st, es1, clock1, hrun, hv, hst⟩ := WideElems.entry_then_store KL ht hz hb F hkey
  have hb1 : (setBlock w b (.map es1 clock1)).heap[b]? = some (.map es1 clock1) := heap_setBlock_same hb _
  refine ⟨v0, st, setBlock w b (.map es1 clock1), hrun, ⟨rfl, rfl, rfl, by simp [setBlock], fun i _ hi => heap_setBlock_other hb _ (fun e => hi (by rw [e]))⟩, ?_, fun w2 val d ps hw2 hval => ?_⟩
  · rw [hD]
    rcases Maps.fit_look false K ht (hz w) hb F hkey with ⟨-, hmiss, hat⟩ | ⟨e0, y, hm, hk, -, hRv, hat, -⟩
    · rcases hv with ⟨e1, hm1, hk1, -⟩ | ⟨-, rfl⟩
      · exact absurd hk1 (hmiss e1 hm1)
      · exact ⟨zp, by rw [hat zd]; exact hzd⟩
    · rcases hv with ⟨e1, hm1, hk1, rfl⟩ | ⟨hmiss, -⟩
      · have e01 : e1 = e0 := key_one F.stamped.2.2 hm1 hm (hk1.trans hk.symm)
        subst e01
        exact ⟨y.2, by rw [hat zd]; exact hRv⟩
      · exact absurd hk (hmiss e0 hm)
  · have hb2 : w2.heap[b]? = some (.map es1 clock1) := hw2.trans hb1
    obtain ⟨es', clock', r1, r2⟩ := hst w2 val hb2
    obtain ⟨w', u1, u2, -⟩ := h.update K ht hn hkey hval
    rw [r2] at u1
    have hw' : setBlock w b (.map es' clock') = w' := by
      injection u1
    subst hw'
    refine ⟨_, r1, ?_, ⟨rfl, rfl, rfl, by simp [setBlock], fun i _ hi => heap_setBlock_other hb2 _ (fun e => hi (by rw [e]))⟩⟩
    obtain ⟨es2, clock2, q1, q2⟩ := u2
    rw [heap_setBlock_same hb _] at q1
    refine ⟨es2, clock2, ?_, q2⟩
    rw [heap_setBlock_same hb2 _]
    exact q1
/-- 'm[k]' as what is to be turned, for the walk: its value, and what a store into it will do -/
theorem wpList_mapEntry_own {H : Type} {P : Program} (w : World) {ops : Array Oper} {rest : List Oper} {o : Oper} {a : Act} {Q : Exit → Act → World → Prop} (hg : o.guard = none) (m x : Operand) (t : TypeId) (hop : o.op = Op.mapEntry t m x)
    (k e : TypeId) (K : Maps.Keyed P k) (KL : WideMaps.KeyLaw P k) (ht : P.underlying t = some (.map k e)) (R : Value → Option (DataW H × List MemPlace)) (b n : Nat) (D : DataW H) (hm : a.eval m = .map (some b)) (hown : w.ownsMap P k R b n D) (hn : n < maxLen) (z : Value) (hz : ∀ u : World, (zeroValue e).run P u = .ok z u) (zd : DataW H) (zp : List MemPlace) (hzd : R z = some (zd, zp))
    (key : Value) (kl : Lit) (hx : a.eval x = key) (hkey : keyOf P k key = some kl)
    (hK : ∀ (v : Value) (st : Nat) (w1 : World) (ps : List MemPlace), w.grownBy w1 (some b) → R v = some (D.atKey kl zd, ps) → (∀ (w2 : World) (val : Value) (d : DataW H) (ps : List MemPlace), w2.heap[b]? = w1.heap[b]? → R val = some (d, ps) → ∃ w3, (Instr.entryStore t (.map (some b)) (goInt st) val).run P w2 = .ok () w3 ∧ w3.ownsMap P k R b (n + 1) (D.put kl d) ∧ w2.grownBy w3 (some b)) → wpList P ops Q rest (a.put o.dst (.tuple #[v, goInt st])) w1) : wpList P ops Q (o :: rest) a w := by
  refine wpList_plain hg fun K' hK' => ?_
  obtain ⟨v, st, w1, hrun, h1, ⟨ps, h2⟩, h3⟩ := entry_owned hown K KL ht hn hz hzd hkey
  unfold Oper.wp
  simp [execOp, hop, hm, hx, hrun, Result.andThen]
  exact hK' _ _ (hK v st w1 ps h1 h2 h3)
/-- .. and the store -/
theorem wpList_entryStore_own {P : Program} (w : World) {ops : Array Oper} {rest : List Oper} {o : Oper} {a : Act} {Q : Exit → Act → World → Prop} (hg : o.guard = none) (m x y : Operand) (t : TypeId) (hop : o.op = Op.entryStore t m x y) (b : Nat) (hm : a.eval m = .map (some b)) (sv val : Value) (hx : a.eval x = sv) (hy : a.eval y = val) (w3 : World) (hrun : (Instr.entryStore t (.map (some b)) sv val).run P w = .ok () w3)
    (hK : wpList P ops Q rest (a.put o.dst undef) w3) : wpList P ops Q (o :: rest) a w := by
  refine wpList_plain hg fun K' hK' => ?_
  unfold Oper.wp
  simp [execOp, hop, hm, hx, hy, hrun, Result.andThen]
  exact hK' _ _ hK
/-- the other spot's key: of RouteSpread's -/
theorem sq_row : (56 : TypeId) < Tryd.prog.types.size := of_decide_eq_true (by kernel_rfl)
theorem sq_wide : (match Tryd.prog.underlying 56 with | some (.array _ _) | some (.struct _) => true | _ => false) = true := by rw [Tryd.underlying56]
theorem sq_at : Tryd.prog.keyTypeAt 2 56 = true := by kernel_rfl
set_option maxRecDepth 100000 in
theorem sq_klaw : WideMaps.KeyLaw Tryd.prog 56 := deep_law_laid (P := Tryd.prog) (m := 2) (k := 56) sp_laid (Nat.le_of_ble_eq_true rfl) sq_row sq_at sq_wide
theorem sq_law : Maps.Keyed Tryd.prog 56 := Maps.Keyed.of_law sq_klaw
theorem sq_cells : Tryd.prog.cellsOf 56 = 2 := by kernel_rfl
theorem sq_deep : Tryd.prog.keyType 56 = true := by kernel_rfl
theorem kyQ_some {p : Pl} (h : okQ p) : keyOf Tryd.prog 56 (plV p) = some (kyS p) := by
  obtain ⟨⟨a0, a1⟩, b0, b1⟩ := h
  obtain ⟨x, y⟩ := p
  simp only at a0 a1 b0 b1
  have w1 : (Lit.int .i64 x).wf = true := wf_i64 (by omega) (by omega)
  have w2 : (Lit.int .i64 y).wf = true := wf_i64 (by omega) (by omega)
  have hf : (plV (x, y)).formed Tryd.prog 56 = true := by simp [plV, Value.formed, Tryd.underlying56, sq_cells]
  have hl : Tryd.prog.keyLits (Tryd.prog.types.size + 1) 56 (plV (x, y)).cells.toList = some [.int .i64 x, .int .i64 y] := by
    obtain ⟨m, hm⟩ : ∃ m, Tryd.prog.types.size + 1 = m + 2 := ⟨Tryd.prog.types.size - 1, by have := of_decide_eq_true sp_sz; omega⟩
    rw [hm]
    simp [Program.keyLits, Tryd.underlying56, sq_cells, plV, Value.cells, Tryd.underlying3, w1, w2, show Tryd.prog.cellsOf 3 = 1 by kernel_rfl]
  unfold keyOf
  rw [Tryd.underlying56]
  simp only [sq_deep, hf, Bool.and_self, if_true]
  rw [hl]
  rfl
/-- RouteSpread's two maps -/
def SqMap (w : World) (b n : Nat) (D : DVp) : Prop := w.ownsMap Tryd.prog 56 RVp b n D
theorem SqMap.kept {w w' : World} {b n : Nat} {D : DVp} (h : SqMap w b n D) (hb : Below w.heap.size w w') : SqMap w' b n D :=
  World.ownsMap.kept h (row := none) ⟨hb.os, hb.tape, hb.output, hb.size, fun k hk _ => hb.block k hk⟩ (by simp)
theorem SqMap.grown {w w' : World} {b n : Nat} {D : DVp} (h : SqMap w b n D) {row : Option Nat} (hg : w.grownBy w' row) (hne : some b ≠ row) : SqMap w' b n D := World.ownsMap.kept h hg hne
theorem zero_sps (w : World) : (zeroValue 57).run Tryd.prog w = .ok (.slice none 0 0) w := by kernel_rfl
/-- what the map 'next' says: of each spot of S, in which row what is carried of it lies; F: what lies there -/
structure Nxt (D : DVp) (S : List Pl) (V : Pl → Value) : Prop where
  at' : ∀ q, okQ q → ∀ z, D.atKey (kyS q) z = if q ∈ S then .held (V q) else z
  has : ∀ q, okQ q → Maps.has D (kyS q) = decide (q ∈ S)
  size : Maps.size D = S.length
  keys : ∀ kl, Maps.has D kl = true → ∃ q ∈ S, kl = kyS q
theorem Nxt.nil (V : Pl → Value) : Nxt (.map []) [] V := ⟨fun q _ z => by simp; rfl, fun q _ => by simp; rfl, rfl, fun kl h => by simp [Maps.has] at h⟩
theorem Nxt.new {w : World} {b n : Nat} {D : DVp} {S : List Pl} {V : Pl → Value} (h : Nxt D S V) (hm : SqMap w b n D) {q : Pl} (hS : ∀ p ∈ S, okQ p) (hq : okQ q) (hn : q ∉ S) (v : Value) : Nxt (D.put (kyS q) (.held v)) (S ++ [q]) (fun p => if p = q then v else V p) := by
  have ht := World.ownsMap.isMap hm
  refine ⟨fun x hx z => ?_, fun x hx => ?_, ?_, ?_⟩
  · by_cases e : x = q
    · subst e; rw [Maps.atKey_put_same ht (kyS_key hq)]; simp
    · rw [Maps.atKey_put_other (fun e2 => e (kyS_inj hx hq e2)), h.at' x hx]; simp [e]
  · by_cases e : x = q
    · subst e; rw [Maps.has_put_same ht (kyS_key hq)]; simp
    · rw [Maps.has_put_other (fun e2 => e (kyS_inj hx hq e2)), h.has x hx]; simp [e]
  · rw [Maps.size_put (World.ownsMap.tidy hm sq_law), h.has q hq, decide_eq_false hn, h.size]
    simp
  · intro kl hk
    by_cases e : kl = kyS q
    · exact ⟨q, by simp, e⟩
    · rw [Maps.has_put_other e] at hk
      obtain ⟨p, hp, e2⟩ := h.keys kl hk
      exact ⟨p, List.mem_append_left _ hp, e2⟩
theorem Nxt.turn {w : World} {b n : Nat} {D : DVp} {S : List Pl} {V : Pl → Value} (h : Nxt D S V) (hm : SqMap w b n D) {q : Pl} (hS : ∀ p ∈ S, okQ p) (hn : q ∈ S) (v : Value) : Nxt (D.put (kyS q) (.held v)) S (fun p => if p = q then v else V p) := by
  have ht := World.ownsMap.isMap hm
  have hq := hS q hn
  refine ⟨fun x hx z => ?_, fun x hx => ?_, ?_, ?_⟩
  · by_cases e : x = q
    · subst e; rw [Maps.atKey_put_same ht (kyS_key hq)]; simp [hn]
    · rw [Maps.atKey_put_other (fun e2 => e (kyS_inj hx hq e2)), h.at' x hx]; simp [e]
  · by_cases e : x = q
    · subst e; rw [Maps.has_put_same ht (kyS_key hq)]; simp [hn]
    · rw [Maps.has_put_other (fun e2 => e (kyS_inj hx hq e2)), h.has x hx]
  · rw [Maps.size_put (World.ownsMap.tidy hm sq_law), h.has q hq, decide_eq_true hn, h.size]
    simp
  · intro kl hk
    by_cases e : kl = kyS q
    · exact ⟨q, hn, e⟩
    · rw [Maps.has_put_other e] at hk
      exact h.keys kl hk
end Bw
end Go.Proofs.YtapjiopnjfldhaaDoor
namespace Go.Proofs.YtapjiopnjfldhaaDoor
open Go.ChangeShapes Go.WideShapes Go.ChangeAt Go.RowKit
namespace Bw
open Bm
set_option linter.unusedVariables false
theorem info_sp : (Tryd.prog.info? 56).map (fun i => (i.zero, i.size, i.bytes)) = some (some (.agg #[.int .i64 0, .int .i64 0]), 2, 16) := by kernel_rfl
theorem plC_len (l : List Pl) : (plC l).length = l.length * 2 := flat_len plCl 2 (fun _ => rfl) l
theorem plC_two (l M : List Pl) : plC (l ++ M) = plC l ++ plC M := by unfold plC; rw [List.flatMap_append]
theorem plC_oneC (l : List Pl) : ∀ u ∈ plC l, u.oneCell' = true := by
  intro u hu
  unfold plC at hu
  rw [List.mem_flatMap] at hu
  obtain ⟨r, -, hr⟩ := hu
  simp [plCl] at hr
  rcases hr with rfl | rfl <;> rfl
structure QpAt (w : World) (base g : Nat) (v : Value) (l : List Pl) : Prop where
  ex : ∃ off c cur, v = .slice (some ⟨g, off, none⟩) l.length c ∧ w.heap[g]? = some (.cells cur 56 (0, 0)) ∧ l.length ≤ c ∧ c ≤ maxLen ∧ off + c * 2 ≤ cur.size ∧ ∀ j u, (plC l)[j]? = some u → cur[off + j]? = some u
  hg : base ≤ g
theorem QpAt.lt {w : World} {base g : Nat} {v : Value} {l : List Pl} (h : QpAt w base g v l) : g < w.heap.size := by
  obtain ⟨off, c, cur, -, h2, -⟩ := h.ex
  exact (Array.getElem?_eq_some_iff.1 h2).1
theorem QpAt.kept {w w' : World} {base g : Nat} {v : Value} {l : List Pl} (h : QpAt w base g v l) (hb : w'.heap[g]? = w.heap[g]?) : QpAt w' base g v l :=
  { h with
    ex := by
      obtain ⟨off, c, cur, h1, h2, h3⟩ := h.ex
      exact ⟨off, c, cur, h1, hb.trans h2, h3⟩ }
theorem QpAt.below {w w' : World} {base g : Nat} {v : Value} {l : List Pl} (h : QpAt w base g v l) (hb : Below w.heap.size w w') : QpAt w' base g v l := h.kept (hb.block g h.lt)
theorem QpAt.grown {w w' : World} {base g b : Nat} {v : Value} {l : List Pl} (h : QpAt w base g v l) (hg : w.grownBy w' (some b)) (hne : g ≠ b) : QpAt w' base g v l := h.kept (hg.block g h.lt (fun e => hne (Option.some.inj e)))
/-- a row of one's own as what is to come -/
theorem QpAt.own {w : World} {base : Nat} {v : Value} {l : List Pl} (h : w.ownsRow base 56 2 v l.length (plC l)) (h0 : 0 < l.length) : ∃ g, QpAt w base g v l := by
  rcases h.2 with ⟨q1, q2⟩ | ⟨g', c', cur', rfl, q2, q3, q4, q5, q6, q7⟩
  · omega
  · have hcells := h.cells (g := g') rfl
    refine ⟨g', ⟨0, c', cur', rfl, q3, q4, q5, by rw [q6]; omega, fun j u hj => ?_⟩, q2⟩
    have := hcells j u hj
    rw [Addr.add_lit, Nat.zero_add, cell_of_row _ _ j _ _ _ q3] at this
    rw [Nat.zero_add]
    exact this
/-- the first of them, and what is left -/
theorem QpAt.head {w : World} {base g : Nat} {v : Value} {x : Pl} {l : List Pl} (h : QpAt w base g v (x :: l)) : ∃ off c, v = .slice (some ⟨g, off, none⟩) (l.length + 1) c ∧ w.cell? ⟨g, off, none⟩ = some (.int .i64 x.1) ∧ w.cell? ⟨g, off + 1, none⟩ = some (.int .i64 x.2) ∧ l.length + 1 ≤ c ∧ c ≤ maxLen ∧ ((c = 1 ∧ l = [] ∧ QpAt w base g (.slice (some ⟨g, off, none⟩) 0 0) []) ∨ (¬ c = 1 ∧ QpAt w base g (.slice (some ⟨g, off + 2, none⟩) l.length (c - 1)) l)) := by
  obtain ⟨off, c, cur, rfl, h2, h3, h4, h5, h6⟩ := h.ex
  simp only [List.length_cons] at h3
  have hc : ∀ j u, j < 2 → (plCl x)[j]? = some u → w.cell? ⟨g, off + j, none⟩ = some u := by
    intro j u hj hu
    rw [cell_of_row w g (off + j) cur _ _ h2]
    refine h6 j u ?_
    have e : plC (x :: l) = plCl x ++ plC l := by simp [plC]
    rw [e, List.getElem?_append_left (by show j < 2; exact hj)]
    exact hu
  refine ⟨off, c, rfl, hc 0 _ (by omega) rfl, hc 1 _ (by omega) rfl, h3, h4, ?_⟩
  by_cases hc : c = 1
  · have hl : l = [] := List.eq_nil_of_length_eq_zero (by omega)
    refine .inl ⟨hc, hl, ⟨⟨off, 0, cur, rfl, h2, Nat.le_refl _, Nat.zero_le _, by omega, fun j u hj => ?_⟩, h.hg⟩⟩
    simp [plC] at hj
  · refine .inr ⟨hc, ⟨⟨off + 2, c - 1, cur, rfl, h2, by omega, by omega, by omega, fun j u hj => ?_⟩, h.hg⟩⟩
    have e2 : plC (x :: l) = plCl x ++ plC l := by simp [plC]
    have h8 : (plCl x).length = 2 := rfl
    have := h6 (2 + j) u (by rw [e2, List.getElem?_append_right (by rw [h8]; omega), h8, Nat.add_sub_cancel_left]; exact hj)
    have h9 : off + 2 + j = off + (2 + j) := by omega
    rw [h9]
    exact this
theorem qp_append (w : World) (base g : Nat) (v : Value) (l M : List Pl) (y : Addr) (m lc : Nat) (ty : TypeId) (hQ : QpAt w base g v l) (hm : M.length = m) (h0 : 0 < m) (hnews : ∀ j u, (plC M)[j]? = some u → w.cell? (y.add j) = some u) (hsz : l.length + M.length ≤ 4000000) (hb : base ≤ w.heap.size) :
    ∃ v' w' g', (Builtin.append_ #[57, 57] ty #[v, .slice (some y) m lc]).run Tryd.prog w = .ok v' w' ∧ QpAt w' base g' v' (l ++ M) ∧ w.grownBy w' (some g) ∧ (g' = g ∨ w.heap.size ≤ g') := by
  subst hm
  obtain ⟨i0, hi, hz0, hz1, hz2⟩ := info_parts info_sp
  obtain ⟨off, c, cur, rfl, h2, h3, h4, h5, h6⟩ := hQ.ex
  have hT : Tryd.prog.underlying 57 = some (.slice 56) := Tryd.underlying57
  have hlm := plC_len M
  have hll := plC_len l
  by_cases hroom : l.length + M.length ≤ c
  · have hfit : off + l.length * 2 + (plC M).length ≤ cur.size := by rw [hlm]; omega
    have hrun := run_append_room_cells (P := Tryd.prog) w 57 ty 56 i0 hT hi g off l.length c y M.length lc (plC M) (by rw [hz1]; exact hlm) hnews (plC_oneC M) hroom (fun j hj => by
      rw [hz1, cell_of_row w g _ cur _ _ h2, Option.isSome_iff_exists]
      exact ⟨_, Array.getElem?_eq_getElem (by omega)⟩) (fun j hj => frozen_of_row w g _ cur _ h2)
    rw [hz1] at hrun
    obtain ⟨hg, cur', k1, k2, k3, k4⟩ := setCells_row g 56 (plC M) (off + l.length * 2) cur w h2 hfit
    refine ⟨_, _, g, hrun, ⟨⟨off, c, cur', by rw [List.length_append], k1, by rw [List.length_append]; exact hroom, h4, by rw [k2]; exact h5, fun j u hj => ?_⟩, hQ.hg⟩, hg, .inl rfl⟩
    rw [plC_two] at hj
    by_cases hjl : j < l.length * 2
    · rw [List.getElem?_append_left (by rw [hll]; exact hjl)] at hj
      rw [k3 (off + j) (by omega)]
      exact h6 j u hj
    · rw [List.getElem?_append_right (by rw [hll]; omega), hll] at hj
      have := k4 (j - l.length * 2) u hj
      have e : off + j = off + l.length * 2 + (j - l.length * 2) := by omega
      rw [e]
      exact this
  · obtain ⟨v', w', hrun, ho, hg⟩ := run_append_arg_grows (P := Tryd.prog) w 57 ty 56 i0 _ 2 16 hT hi hz0 hz1 hz2 rfl (by decide) ⟨g, off, none⟩ l.length c (plC l) hll (fun j u hu => by
      rw [Addr.add_lit, cell_of_row w g _ cur _ _ h2]
      exact h6 j u hu) y M.length lc (plC M) hlm hnews (by omega) (by unfold maxLen; omega) (by omega)
    have hg' : w.grownBy w' (some g) := ⟨hg.os, hg.tape, hg.output, hg.size, fun k hk hne => hg.block k hk (by simp)⟩
    rcases ho.2 with ⟨q1, q2⟩ | ⟨g', c', cur', rfl, q2, q3, q4, q5, q6, q7⟩
    · omega
    · have hcells := ho.cells (g := g') rfl
      refine ⟨_, w', g', hrun, ⟨⟨0, c', cur', by rw [List.length_append], q3, by rw [List.length_append]; exact q4, q5, by rw [q6]; omega, fun j u hj => ?_⟩, Nat.le_trans hb q2⟩, hg', .inr q2⟩
      rw [plC_two] at hj
      have := hcells j u hj
      rw [Addr.add_lit, Nat.zero_add, cell_of_row _ _ j _ _ _ q3] at this
      rw [Nat.zero_add]
      exact this
/-- .. for the walk -/
theorem wpList_append_qp (w : World) {ops : Array Oper} {rest : List Oper} {o : Oper} {a : Act} {Q : Exit → Act → World → Prop} (hgd : o.guard = none) (s x : Operand)
    (ho : o.op = .call { callee := .builtin .append, args := #[s, x], argTypes := #[57, 57] })
    (base g : Nat) (v : Value) (l M : List Pl) (y : Addr) (lc m : Nat) (hs : a.eval s = v) (hx : a.eval x = .slice (some y) m lc) (hm : M.length = m) (h0 : 0 < m) (hQ : QpAt w base g v l) (hnews : ∀ j u, (plC M)[j]? = some u → w.cell? (y.add j) = some u) (hsz : l.length + M.length ≤ 4000000) (hb : base ≤ w.heap.size)
    (h : ∀ v' w' g', QpAt w' base g' v' (l ++ M) → w.grownBy w' (some g) → (g' = g ∨ w.heap.size ≤ g') → wpList Tryd.prog ops Q rest (a.put o.dst v') w') : wpList Tryd.prog ops Q (o :: rest) a w := by
  refine wpList_plain hgd fun K hK => ?_
  obtain ⟨v', w', g', hr, h2, h3, h4⟩ := qp_append w base g v l M y m lc o.type hQ hm h0 hnews hsz hb
  unfold Oper.wp
  simp [execOp, ho, resolve, invoke, builtin, hs, hx, hr, Result.andThen]
  exact hK _ _ (h v' w' g' h2 h3 h4)
end Bw
end Go.Proofs.YtapjiopnjfldhaaDoor
namespace Go.Proofs.YtapjiopnjfldhaaDoor
open Go.ChangeShapes Go.WideShapes Go.ChangeAt Go.RowKit
namespace Bw
open Bm
set_option linter.unusedVariables false
/-- a function that is another one at one place -/
def put1 {α : Type} (f : Pl → α) (q : Pl) (v : α) : Pl → α := fun p => if p = q then v else f p
theorem put1_same {α : Type} (f : Pl → α) (q : Pl) (v : α) : put1 f q v q = v := by simp [put1]
theorem put1_other {α : Type} (f : Pl → α) {q p : Pl} (v : α) (h : p ≠ q) : put1 f q v p = f p := by simp [put1, h]
structure NxAt (w : World) (base gq : Nat) (S : List Pl) (V : Pl → Value) (G : Pl → Nat) (F : Pl → List Pl) : Prop where
  row : ∀ p ∈ S, QpAt w base (G p) (V p) (F p)
  apart : ∀ p ∈ S, ∀ q ∈ S, p ≠ q → G p ≠ G q
  queue : ∀ p ∈ S, G p ≠ gq
theorem NxAt.nil (w : World) (base gq : Nat) (V : Pl → Value) (G : Pl → Nat) (F : Pl → List Pl) : NxAt w base gq [] V G F := ⟨fun p hp => (by cases hp), fun p hp => (by cases hp), fun p hp => (by cases hp)⟩
theorem NxAt.below {w w' : World} {base gq : Nat} {S : List Pl} {V : Pl → Value} {G : Pl → Nat} {F : Pl → List Pl} (h : NxAt w base gq S V G F) (hb : Below w.heap.size w w') : NxAt w' base gq S V G F := { h with row := fun p hp => (h.row p hp).below hb }
theorem QpAt.not_map {w : World} {base g : Nat} {v : Value} {l : List Pl} (h : QpAt w base g v l) {b : Nat} {es : Array MapEntry} {clock : Nat} (hm : w.heap[b]? = some (.map es clock)) : g ≠ b := by
  intro e
  obtain ⟨off, c, cur, -, h2, -⟩ := h.ex
  rw [e, hm] at h2
  cases h2
theorem SqMap.block {w : World} {b n : Nat} {D : DVp} (h : SqMap w b n D) : ∃ es clock, w.heap[b]? = some (.map es clock) := by
  obtain ⟨es, clock, hb, -⟩ := h
  exact ⟨es, clock, hb⟩
/-- the map turns: the rows stay -/
theorem NxAt.map {w w' : World} {base gq b n : Nat} {D : DVp} {S : List Pl} {V : Pl → Value} {G : Pl → Nat} {F : Pl → List Pl} (h : NxAt w base gq S V G F) (hm : SqMap w b n D) (hg : w.grownBy w' (some b)) : NxAt w' base gq S V G F := by
  obtain ⟨es, clock, hb⟩ := hm.block
  exact { h with row := fun p hp => (h.row p hp).grown hg ((h.row p hp).not_map hb) }
theorem QpAt.map {w w' : World} {base g b n : Nat} {D : DVp} {v : Value} {l : List Pl} (h : QpAt w base g v l) (hm : SqMap w b n D) (hg : w.grownBy w' (some b)) : QpAt w' base g v l := by
  obtain ⟨es, clock, hb⟩ := hm.block
  exact h.grown hg (h.not_map hb)
/-- one row turns: the map stays -/
theorem SqMap.row {w w' : World} {base g b n : Nat} {D : DVp} {v : Value} {l : List Pl} (hm : SqMap w b n D) (h : QpAt w base g v l) (hg : w.grownBy w' (some g)) : SqMap w' b n D := by
  obtain ⟨es, clock, hb⟩ := hm.block
  exact hm.grown hg (fun e => h.not_map hb (Option.some.inj e).symm)
/-- those to come turn: the rows stay -/
theorem NxAt.turned {w w' : World} {base gq gq' : Nat} {S : List Pl} {V : Pl → Value} {G : Pl → Nat} {F : Pl → List Pl} (h : NxAt w base gq S V G F) (hg : w.grownBy w' (some gq)) (hn : gq' = gq ∨ w.heap.size ≤ gq') : NxAt w' base gq' S V G F := by
  refine { h with row := fun p hp => (h.row p hp).grown hg (h.queue p hp), queue := fun p hp e => ?_ }
  rcases hn with hn | hn
  · exact h.queue p hp (e.trans hn)
  · have := (h.row p hp).lt
    omega
/-- a new one's row -/
theorem NxAt.new {w : World} {base gq g : Nat} {S : List Pl} {V : Pl → Value} {G : Pl → Nat} {F : Pl → List Pl} (h : NxAt w base gq S V G F) {q : Pl} (hn : q ∉ S) {v : Value} {l : List Pl} (hq : QpAt w base g v l) (hfresh : ∀ p ∈ S, G p ≠ g) (hgq : g ≠ gq) : NxAt w base gq (S ++ [q]) (put1 V q v) (put1 G q g) (put1 F q l) := by
  have hne : ∀ p ∈ S, p ≠ q := fun p hp e => hn (e ▸ hp)
  refine ⟨fun p hp => ?_, fun p hp r hr hpr => ?_, fun p hp => ?_⟩
  · rcases List.mem_append.1 hp with hp | hp
    · rw [put1_other _ _ (hne p hp), put1_other _ _ (hne p hp), put1_other _ _ (hne p hp)]; exact h.row p hp
    · rw [List.mem_singleton] at hp; subst hp; rw [put1_same, put1_same, put1_same]; exact hq
  · rcases List.mem_append.1 hp with hp1 | hp1 <;> rcases List.mem_append.1 hr with hr1 | hr1
    · rw [put1_other _ _ (hne p hp1), put1_other _ _ (hne r hr1)]; exact h.apart p hp1 r hr1 hpr
    · rw [List.mem_singleton.1 hr1, put1_other _ _ (hne p hp1), put1_same]; exact hfresh p hp1
    · rw [List.mem_singleton.1 hp1, put1_other _ _ (hne r hr1), put1_same]; exact fun e => hfresh r hr1 e.symm
    · exact absurd ((List.mem_singleton.1 hp1).trans (List.mem_singleton.1 hr1).symm) hpr
  · rcases List.mem_append.1 hp with hp1 | hp1
    · rw [put1_other _ _ (hne p hp1)]; exact h.queue p hp1
    · rw [List.mem_singleton.1 hp1, put1_same]; exact hgq
/-- one's row turns -/
theorem NxAt.push {w w' : World} {base gq g' : Nat} {S : List Pl} {V : Pl → Value} {G : Pl → Nat} {F : Pl → List Pl} (h : NxAt w base gq S V G F) {q : Pl} (hq : q ∈ S) {v' : Value} {l' : List Pl} (hg : w.grownBy w' (some (G q))) (hn : g' = G q ∨ w.heap.size ≤ g') (hr : QpAt w' base g' v' l') (hgq : gq < w.heap.size) : NxAt w' base gq S (put1 V q v') (put1 G q g') (put1 F q l') := by
  have hother : ∀ p ∈ S, p ≠ q → g' ≠ G p := by
    intro p hp hne e
    rcases hn with hn | hn
    · exact h.apart p hp q hq hne (e.symm.trans hn)
    · have := (h.row p hp).lt
      omega
  refine ⟨fun p hp => ?_, fun p hp r hr2 hpr => ?_, fun p hp => ?_⟩
  · by_cases e : p = q
    · subst e; rw [put1_same, put1_same, put1_same]; exact hr
    · rw [put1_other _ _ e, put1_other _ _ e, put1_other _ _ e]; exact (h.row p hp).grown hg (h.apart p hp q hq e)
  · by_cases e : p = q <;> by_cases e2 : r = q
    · exact absurd (e.trans e2.symm) hpr
    · subst e; rw [put1_same, put1_other _ _ e2]; exact hother r hr2 e2
    · subst e2; rw [put1_same, put1_other _ _ e]; exact fun e3 => hother p hp e e3.symm
    · rw [put1_other _ _ e, put1_other _ _ e2]; exact h.apart p hp r hr2 hpr
  · by_cases e : p = q
    · subst e; rw [put1_same]
      rcases hn with hn | hn
      · rw [hn]; exact h.queue p hp
      · omega
    · rw [put1_other _ _ e]; exact h.queue p hp
/-- .. and those to come stay -/
theorem QpAt.other {w w' : World} {base gq : Nat} {v : Value} {l : List Pl} {S : List Pl} {V : Pl → Value} {G : Pl → Nat} {F : Pl → List Pl} (hQ : QpAt w base gq v l) (h : NxAt w base gq S V G F) {q : Pl} (hq : q ∈ S) (hg : w.grownBy w' (some (G q))) : QpAt w' base gq v l := hQ.grown hg (fun e => h.queue q hq e.symm)
end Bw
end Go.Proofs.YtapjiopnjfldhaaDoor
namespace Go.Proofs.YtapjiopnjfldhaaDoor
open Go.ChangeShapes Go.WideShapes Go.ChangeAt Go.RowKit
namespace Bw
open Bm
open Go.ChangeMaps
set_option linter.unusedVariables false
theorem SqMap.tight {w : World} {b n : Nat} {D : DVp} (h : SqMap w b n D) : SqMap w b (Maps.size D) D := by
  obtain ⟨es, clock, hb, F, hs, hD⟩ := h
  refine ⟨es, clock, hb, F, ?_, hD⟩
  rw [hD]
  show es.size ≤ List.length _
  rw [length_sorted]
  simp
theorem SqMap.nof {w : World} {b n : Nat} {D : DVp} {S : List Pl} {V : Pl → Value} (h : SqMap w b n D) (hN : Nxt D S V) : SqMap w b S.length D := by
  have := h.tight
  rwa [hN.size] at this
theorem QpAt.mapB {w w' : World} {base g b : Nat} {v : Value} {l : List Pl} (h : QpAt w base g v l) (hb : b < base) (hg : w.grownBy w' (some b)) : QpAt w' base g v l := h.grown hg (by have := h.hg; omega)
theorem NxAt.mapB {w w' : World} {base gq b : Nat} {S : List Pl} {V : Pl → Value} {G : Pl → Nat} {F : Pl → List Pl} (h : NxAt w base gq S V G F) (hb : b < base) (hg : w.grownBy w' (some b)) : NxAt w' base gq S V G F := { h with row := fun p hp => (h.row p hp).mapB hb hg }
structure SpW (w : World) (base bm gq : Nat) (S : List Pl) (D : DVp) (V : Pl → Value) (G : Pl → Nat) (F : Pl → List Pl) (vW : Value) (Wk : List Pl) : Prop where
  hb : bm < base
  map : SqMap w bm S.length D
  nx : Nxt D S V
  rows : NxAt w base gq S V G F
  qu : QpAt w base gq vW Wk
  ok : ∀ p ∈ S, okQ p
theorem SpW.below {w w' : World} {base bm gq : Nat} {S : List Pl} {D : DVp} {V : Pl → Value} {G : Pl → Nat} {F : Pl → List Pl} {vW : Value} {Wk : List Pl} (h : SpW w base bm gq S D V G F vW Wk) (hb : Below w.heap.size w w') : SpW w' base bm gq S D V G F vW Wk :=
  ⟨h.hb, h.map.kept hb, h.nx, h.rows.below hb, h.qu.below hb, h.ok⟩
/-- a block that is none of these is written -/
theorem SpW.other {w w' : World} {base bm gq b : Nat} {S : List Pl} {D : DVp} {V : Pl → Value} {G : Pl → Nat} {F : Pl → List Pl} {vW : Value} {Wk : List Pl} (h : SpW w base bm gq S D V G F vW Wk) (hg : w.grownBy w' (some b)) (h1 : b ≠ bm) (h2 : b ≠ gq) (h3 : ∀ p ∈ S, G p ≠ b) : SpW w' base bm gq S D V G F vW Wk :=
  ⟨h.hb, h.map.grown hg (fun e => h1 (Option.some.inj e).symm), h.nx, { h.rows with row := fun p hp => (h.rows.row p hp).grown hg (h3 p hp) }, h.qu.grown hg (fun e => h2 e.symm), h.ok⟩
/-- the first of those to come is taken from them -/
theorem SpW.rest {w : World} {base bm gq : Nat} {S : List Pl} {D : DVp} {V : Pl → Value} {G : Pl → Nat} {F : Pl → List Pl} {vW vW' : Value} {Wk Wk' : List Pl} (h : SpW w base bm gq S D V G F vW Wk) (hq : QpAt w base gq vW' Wk') : SpW w base bm gq S D V G F vW' Wk' := { h with qu := hq }
/-- 'next[s] = []spot{}' -/
theorem SpW.new {w w' : World} {base bm gq g n : Nat} {S : List Pl} {D : DVp} {V : Pl → Value} {G : Pl → Nat} {F : Pl → List Pl} {vW : Value} {Wk : List Pl} (h : SpW w base bm gq S D V G F vW Wk) {q : Pl} (hn : q ∉ S) (hq : okQ q) {v : Value} (hv : QpAt w base g v []) (hfresh : ∀ p ∈ S, G p ≠ g) (hgq : g ≠ gq)
    (hm : SqMap w' bm n (D.put (kyS q) (.held v))) (hg : w.grownBy w' (some bm)) : SpW w' base bm gq (S ++ [q]) (D.put (kyS q) (.held v)) (put1 V q v) (put1 G q g) (put1 F q []) vW Wk := by
  have hN : Nxt (D.put (kyS q) (.held v)) (S ++ [q]) (put1 V q v) := h.nx.new h.map h.ok hq hn v
  refine ⟨h.hb, hm.nof hN, hN, (h.rows.new hn hv hfresh hgq).mapB h.hb hg, h.qu.mapB h.hb hg, fun p hp => ?_⟩
  rcases List.mem_append.1 hp with hp1 | hp1
  · exact h.ok p hp1
  · rw [List.mem_singleton.1 hp1]; exact hq
/-- 'next[s] = append(next[s], t)': the element that is found -/
theorem SpW.found {w : World} {base bm gq : Nat} {S : List Pl} {D : DVp} {V : Pl → Value} {G : Pl → Nat} {F : Pl → List Pl} {vW : Value} {Wk : List Pl} (h : SpW w base bm gq S D V G F vW Wk) {q : Pl} (hq : q ∈ S) {v : Value} {zd : DVp} {ps : List MemPlace} (hv : RVp v = some (D.atKey (kyS q) zd, ps)) : v = V q := by
  rw [h.nx.at' q (h.ok q hq), if_pos hq] at hv
  unfold RVp at hv
  simp only [Option.some.injEq, Prod.mk.injEq, DataW.held.injEq] at hv
  exact hv.1
/-- .. and all of it: the entry, the append, the store -/
theorem SpW.push {w w1 w2 w3 : World} {base bm gq g' n : Nat} {S : List Pl} {D : DVp} {V : Pl → Value} {G : Pl → Nat} {F : Pl → List Pl} {vW : Value} {Wk : List Pl} (h : SpW w base bm gq S D V G F vW Wk) {q : Pl} (hq : q ∈ S) {v' : Value} {l' : List Pl}
    (hg1 : w.grownBy w1 (some bm)) (hg2 : w1.grownBy w2 (some (G q))) (hn : g' = G q ∨ w1.heap.size ≤ g') (hr : QpAt w2 base g' v' l') (hg3 : w2.grownBy w3 (some bm)) (hm : SqMap w3 bm n (D.put (kyS q) (.held v'))) :
    SpW w3 base bm gq S (D.put (kyS q) (.held v')) (put1 V q v') (put1 G q g') (put1 F q l') vW Wk := by
  have hN : Nxt (D.put (kyS q) (.held v')) S (put1 V q v') := h.nx.turn h.map h.ok hq v'
  have hr1 : NxAt w1 base gq S V G F := h.rows.mapB h.hb hg1
  have hq1 : QpAt w1 base gq vW Wk := h.qu.mapB h.hb hg1
  exact ⟨h.hb, hm.nof hN, hN, (hr1.push hq hg2 hn hr hq1.lt).mapB h.hb hg3, (hq1.other hr1 hq hg2).mapB h.hb hg3, h.ok⟩
/-- 'work = append(work, t)' -/
theorem SpW.queue {w w' : World} {base bm gq g' : Nat} {S : List Pl} {D : DVp} {V : Pl → Value} {G : Pl → Nat} {F : Pl → List Pl} {vW vW' : Value} {Wk Wk' : List Pl} (h : SpW w base bm gq S D V G F vW Wk) (hg : w.grownBy w' (some gq)) (hn : g' = gq ∨ w.heap.size ≤ g') (hq : QpAt w' base g' vW' Wk') : SpW w' base bm g' S D V G F vW' Wk' :=
  ⟨h.hb, h.map.grown hg (fun e => by have := Option.some.inj e; have := h.qu.hg; have := h.hb; omega), h.nx, h.rows.turned hg hn, hq, h.ok⟩
theorem qp_one (w : World) (base : Nat) (x y : Int) (hb : base ≤ w.heap.size) : QpAt (w.alloc (.cells #[.int .i64 x, .int .i64 y] 56)) base w.heap.size (.slice (some ⟨w.heap.size, 0, none⟩) 1 1) [(x, y)] := by
  refine ⟨⟨0, 1, _, rfl, heap_alloc_new w _, Nat.le_refl _, by unfold maxLen; omega, by simp, fun j u hj => ?_⟩, hb⟩
  rw [Nat.zero_add]
  match j, hj with
  | 0, hj => simpa [plC, plCl] using hj
  | 1, hj => simpa [plC, plCl] using hj
  | j + 2, hj => simp [plC, plCl] at hj
theorem qp_none (w : World) (base : Nat) (hb : base ≤ w.heap.size) : QpAt (w.alloc (.cells #[] 56)) base w.heap.size (.slice (some ⟨w.heap.size, 0, none⟩) 0 0) [] := by
  refine ⟨⟨0, 0, _, rfl, heap_alloc_new w _, Nat.le_refl _, Nat.zero_le _, by simp, fun j u hj => ?_⟩, hb⟩
  simp [plC] at hj
/-- the search's beginning -/
theorem SpW.start (w : World) (x y : Int) (V : Pl → Value) (G : Pl → Nat) (F : Pl → List Pl) : SpW ((w.alloc (.map #[] 0)).alloc (.cells #[.int .i64 x, .int .i64 y] 56)) (w.heap.size + 1) w.heap.size (w.heap.size + 1) [] (.map []) V G F (.slice (some ⟨w.heap.size + 1, 0, none⟩) 1 1) [(x, y)] := by
  have hs : (w.alloc (.map #[] 0)).heap.size = w.heap.size + 1 := by simp
  have hq := qp_one (w.alloc (.map #[] 0)) (w.heap.size + 1) x y (by rw [hs]; exact Nat.le_refl _)
  rw [hs] at hq
  exact ⟨Nat.lt_succ_self _, SqMap.kept (World.ownsMap_made w Tryd.prog 56 RVp) (awB _ _), Nxt.nil V, NxAt.nil _ _ _ _ _ _, hq, fun p hp => (by cases hp)⟩
theorem sq_len {w : World} {b n : Nat} {D : DVp} {S : List Pl} {V : Pl → Value} (hm : SqMap w b n D) (h : Nxt D S V) (ty : TypeId) : (Builtin.len_ #[54] ty #[.map (some b)]).run Tryd.prog w = .ok (.int .i64 ((S.length : Nat) : Int)) w := by
  rw [World.ownsMap.len hm Tryd.underlying54 ty, h.size]
/-- 'next[s]', and whether it is there -/
theorem wpList_look_sq (w : World) {ops : Array Oper} {rest : List Oper} {o : Oper} {a : Act} {Q : Exit → Act → World → Prop} (hg : o.guard = none) (m x : Operand) (hop : o.op = Op.lookup 54 m x true)
    (b n : Nat) (D : DVp) (hm : a.eval m = .map (some b)) (hown : SqMap w b n D) (S : List Pl) (V : Pl → Value) (hN : Nxt D S V) (q : Pl) (hq : okQ q) (key : Value) (hx : a.eval x = key) (hk : key = plV q)
    (hK : ∀ v, wpList Tryd.prog ops Q rest (a.put o.dst (.tuple #[v, .bool (decide (q ∈ S))])) w) : wpList Tryd.prog ops Q (o :: rest) a w := by
  subst hk
  refine wpList_plain hg fun K' hK' => ?_
  have hkey := kyQ_some hq
  obtain ⟨es, clock, hb, F, hs, hD⟩ := hown
  have hat := hN.at' q hq
  rw [hD] at hat
  have hfin : ∃ v, (Instr.lookup 54 (.map (some b)) (plV q) true).run Tryd.prog w = .ok (.tuple #[v, .bool (decide (q ∈ S))]) w := by
    rcases Maps.fit_look true sq_law Tryd.underlying54 (zero_sps w) hb F hkey with ⟨hrun, -, h3⟩ | ⟨e0, y, -, -, hrun, hRv, h3, -⟩
    · have hn : q ∉ S := fun hin => by
        have e1 := h3 (.held undef)
        have e2 := h3 (.held (.bool true))
        rw [hat, if_pos hin] at e1 e2
        rw [e1] at e2
        cases e2
      rw [decide_eq_false hn]
      exact ⟨_, by simpa using hrun⟩
    · have hy : q ∈ S := Classical.byContradiction fun hin => by
        have e1 := h3 (.held undef)
        have e2 := h3 (.held (.bool true))
        rw [hat, if_neg hin] at e1 e2
        rw [← e1] at e2
        cases e2
      rw [decide_eq_true hy]
      exact ⟨_, by simpa using hrun⟩
  obtain ⟨v, hrun⟩ := hfin
  unfold Oper.wp
  simp [execOp, hop, hm, hx, hrun, Result.andThen]
  exact hK' _ _ (hK v)
end Bw
end Go.Proofs.YtapjiopnjfldhaaDoor
namespace Go.Proofs.YtapjiopnjfldhaaDoor
open Go.ChangeShapes Go.WideShapes Go.ChangeAt Go.RowKit
namespace Bw
open Bm
open Go.ChangeMaps
set_option linter.unusedVariables false
theorem SpW.rename {w : World} {base bm gq : Nat} {S : List Pl} {D : DVp} {V V' : Pl → Value} {G G' : Pl → Nat} {F F' : Pl → List Pl} {vW : Value} {Wk : List Pl} (h : SpW w base bm gq S D V G F vW Wk) (hV : ∀ p ∈ S, V' p = V p) (hG : ∀ p ∈ S, G' p = G p) (hF : ∀ p ∈ S, F' p = F p) : SpW w base bm gq S D V' G' F' vW Wk := by
  refine ⟨h.hb, h.map, ⟨fun q hq z => ?_, h.nx.has, h.nx.size, h.nx.keys⟩, ⟨fun p hp => ?_, fun p hp q hq hpq => ?_, fun p hp => ?_⟩, h.qu, h.ok⟩
  · rw [h.nx.at' q hq]
    by_cases e : q ∈ S
    · rw [if_pos e, if_pos e, hV q e]
    · rw [if_neg e, if_neg e]
  · rw [hV p hp, hG p hp, hF p hp]; exact h.rows.row p hp
  · rw [hG p hp, hG q hq]; exact h.rows.apart p hp q hq hpq
  · rw [hG p hp]; exact h.rows.queue p hp
/-- the search's state, beside the spot's own variable (bs) and the frame's (bx) -/
structure SpI (w : World) (base bm gq bs bx : Nat) (S : List Pl) (D : DVp) (V : Pl → Value) (G : Pl → Nat) (F : Pl → List Pl) (vW : Value) (Wk : List Pl) (x : Pl) (lo fa re : Bool) (sz : Int) (fa0 : Option Addr) (len cap : Nat) : Prop where
  sp : SpW w base bm gq S D V G F vW Wk
  s : w.heap[bs]? = some (.cells #[.int .i64 x.1, .int .i64 x.2] 56 (0, 0))
  fr : Row6 w bx x.2 lo fa re sz fa0 len cap
  sm : bs ≠ bm
  xm : bx ≠ bm
  sq : bs ≠ gq
  xq : bx ≠ gq
  sG : ∀ p ∈ S, G p ≠ bs
  xG : ∀ p ∈ S, G p ≠ bx
theorem lt_of_block {w : World} {b : Nat} {o : Obj} (h : w.heap[b]? = some o) : b < w.heap.size := (Array.getElem?_eq_some_iff.1 h).1
theorem SpI.below {w w' : World} {base bm gq bs bx : Nat} {S : List Pl} {D : DVp} {V : Pl → Value} {G : Pl → Nat} {F : Pl → List Pl} {vW : Value} {Wk : List Pl} {x : Pl} {lo fa re : Bool} {sz : Int} {fa0 : Option Addr} {len cap : Nat} (h : SpI w base bm gq bs bx S D V G F vW Wk x lo fa re sz fa0 len cap) (hb : Below w.heap.size w w') : SpI w' base bm gq bs bx S D V G F vW Wk x lo fa re sz fa0 len cap :=
  { h with sp := h.sp.below hb, s := (hb.block bs (lt_of_block h.s)).trans h.s, fr := h.fr.kept hb }
theorem SpI.lt {w : World} {base bm gq bs bx : Nat} {S : List Pl} {D : DVp} {V : Pl → Value} {G : Pl → Nat} {F : Pl → List Pl} {vW : Value} {Wk : List Pl} {x : Pl} {lo fa re : Bool} {sz : Int} {fa0 : Option Addr} {len cap : Nat} (h : SpI w base bm gq bs bx S D V G F vW Wk x lo fa re sz fa0 len cap) : bs < w.heap.size ∧ bx < w.heap.size := ⟨lt_of_block h.s, h.fr.lt⟩
/-- the two cells of the spot -/
theorem SpI.cells {w : World} {base bm gq bs bx : Nat} {S : List Pl} {D : DVp} {V : Pl → Value} {G : Pl → Nat} {F : Pl → List Pl} {vW : Value} {Wk : List Pl} {x : Pl} {lo fa re : Bool} {sz : Int} {fa0 : Option Addr} {len cap : Nat} (h : SpI w base bm gq bs bx S D V G F vW Wk x lo fa re sz fa0 len cap) : w.cell? ⟨bs, 0, none⟩ = some (.int .i64 x.1) ∧ w.cell? ⟨bs, 1, none⟩ = some (.int .i64 x.2) := ⟨cell_of_row _ _ 0 _ _ _ h.s, cell_of_row _ _ 1 _ _ _ h.s⟩
theorem keep_other {w w' : World} {b b' : Nat} {o : Obj} (hg : w.grownBy w' (some b)) (h : w.heap[b']? = some o) (hne : b' ≠ b) : w'.heap[b']? = some o := (hg.block b' (lt_of_block h) (fun e => hne (Option.some.inj e))).trans h
/-- the entry is taken (the map's block alone may turn) -/
structure SpE (w w1 : World) (base bm gq bs bx : Nat) (S : List Pl) (D : DVp) (V : Pl → Value) (G : Pl → Nat) (F : Pl → List Pl) (vW : Value) (Wk : List Pl) (x : Pl) (lo fa re : Bool) (sz : Int) (fa0 : Option Addr) (len cap : Nat) : Prop where
  i : SpI w base bm gq bs bx S D V G F vW Wk x lo fa re sz fa0 len cap
  g : w.grownBy w1 (some bm)
theorem SpE.cells {w w1 : World} {base bm gq bs bx : Nat} {S : List Pl} {D : DVp} {V : Pl → Value} {G : Pl → Nat} {F : Pl → List Pl} {vW : Value} {Wk : List Pl} {x : Pl} {lo fa re : Bool} {sz : Int} {fa0 : Option Addr} {len cap : Nat} (h : SpE w w1 base bm gq bs bx S D V G F vW Wk x lo fa re sz fa0 len cap) : w1.cell? ⟨bs, 0, none⟩ = some (.int .i64 x.1) ∧ w1.cell? ⟨bs, 1, none⟩ = some (.int .i64 x.2) :=
  ⟨cell_of_row _ _ 0 _ _ _ (keep_other h.g h.i.s h.i.sm), cell_of_row _ _ 1 _ _ _ (keep_other h.g h.i.s h.i.sm)⟩
theorem SpE.row {w w1 : World} {base bm gq bs bx : Nat} {S : List Pl} {D : DVp} {V : Pl → Value} {G : Pl → Nat} {F : Pl → List Pl} {vW : Value} {Wk : List Pl} {x : Pl} {lo fa re : Bool} {sz : Int} {fa0 : Option Addr} {len cap : Nat} (h : SpE w w1 base bm gq bs bx S D V G F vW Wk x lo fa re sz fa0 len cap) (hx : x ∈ S) : QpAt w1 base (G x) (V x) (F x) := (h.i.sp.rows.mapB h.i.sp.hb h.g).row x hx
/-- blocks are laid behind the entry -/
theorem SpE.below {w w1 w2 : World} {base bm gq bs bx : Nat} {S : List Pl} {D : DVp} {V : Pl → Value} {G : Pl → Nat} {F : Pl → List Pl} {vW : Value} {Wk : List Pl} {x : Pl} {lo fa re : Bool} {sz : Int} {fa0 : Option Addr} {len cap : Nat} (h : SpE w w1 base bm gq bs bx S D V G F vW Wk x lo fa re sz fa0 len cap) (hb : Below w1.heap.size w1 w2) : SpE w w2 base bm gq bs bx S D V G F vW Wk x lo fa re sz fa0 len cap :=
  ⟨h.i, h.g.andThen (row' := none) ⟨hb.os, hb.tape, hb.output, hb.size, fun k hk _ => hb.block k hk⟩ (fun j hj => by cases hj)⟩
/-- the append into the spot's row, and the store of what comes of it -/
theorem SpE.push {w w1 w2 w3 : World} {base bm gq bs bx g' n : Nat} {S : List Pl} {D : DVp} {V : Pl → Value} {G : Pl → Nat} {F : Pl → List Pl} {vW : Value} {Wk : List Pl} {x : Pl} {lo fa re : Bool} {sz : Int} {fa0 : Option Addr} {len cap : Nat} (h : SpE w w1 base bm gq bs bx S D V G F vW Wk x lo fa re sz fa0 len cap) (hx : x ∈ S) {v' : Value} {l' : List Pl}
    (hg2 : w1.grownBy w2 (some (G x))) (hn : g' = G x ∨ w1.heap.size ≤ g') (hr : QpAt w2 base g' v' l') (hg3 : w2.grownBy w3 (some bm)) (hm : w3.ownsMap Tryd.prog 56 RVp bm n (D.put (kyS x) (.held v'))) :
    SpI w3 base bm gq bs bx S (D.put (kyS x) (.held v')) (put1 V x v') (put1 G x g') (put1 F x l') vW Wk x lo fa re sz fa0 len cap := by
  have hl := h.i.lt
  have hsz := h.g.size
  have hgG : ∀ b, b < w.heap.size → (∀ p ∈ S, G p ≠ b) → ∀ p ∈ S, put1 G x g' p ≠ b := by
    intro b hb hG p hp
    by_cases e : p = x
    · subst e
      rw [put1_same]
      rcases hn with hn | hn
      · rw [hn]; exact hG p hp
      · omega
    · rw [put1_other _ _ e]; exact hG p hp
  refine ⟨h.i.sp.push hx h.g hg2 hn hr hg3 hm, ?_, ?_, h.i.sm, h.i.xm, h.i.sq, h.i.xq, hgG bs hl.1 h.i.sG, hgG bx hl.2 h.i.xG⟩
  · exact keep_other hg3 (keep_other hg2 (keep_other h.g h.i.s h.i.sm) (fun e => h.i.sG x hx e.symm)) h.i.sm
  · exact keep_other hg3 (keep_other hg2 (keep_other h.g h.i.fr h.i.xm) (fun e => h.i.xG x hx e.symm)) h.i.xm
/-- 'work = append(work, t)' -/
theorem SpI.queue {w w' : World} {base bm gq g' bs bx : Nat} {S : List Pl} {D : DVp} {V : Pl → Value} {G : Pl → Nat} {F : Pl → List Pl} {vW vW' : Value} {Wk Wk' : List Pl} {x : Pl} {lo fa re : Bool} {sz : Int} {fa0 : Option Addr} {len cap : Nat} (h : SpI w base bm gq bs bx S D V G F vW Wk x lo fa re sz fa0 len cap) (hg : w.grownBy w' (some gq)) (hn : g' = gq ∨ w.heap.size ≤ g') (hq : QpAt w' base g' vW' Wk') : SpI w' base bm g' bs bx S D V G F vW' Wk' x lo fa re sz fa0 len cap := by
  have hl := h.lt
  refine ⟨h.sp.queue hg hn hq, keep_other hg h.s h.sq, keep_other hg h.fr h.xq, h.sm, h.xm, ?_, ?_, h.sG, h.xG⟩
  · rcases hn with hn | hn
    · rw [hn]; exact h.sq
    · omega
  · rcases hn with hn | hn
    · rw [hn]; exact h.xq
    · omega
/-- where the routes begin to be gone through: the frame's variable is new -/
theorem SpI.enter {w : World} {base bm gq bs : Nat} {S : List Pl} {D : DVp} {V : Pl → Value} {G : Pl → Nat} {F : Pl → List Pl} {vW : Value} {Wk : List Pl} {x : Pl} {lo fa re : Bool} {sz : Int} {fa0 : Option Addr} {len cap : Nat} (h : SpW w base bm gq S D V G F vW Wk) (hs : w.heap[bs]? = some (.cells #[.int .i64 x.1, .int .i64 x.2] 56 (0, 0))) (hm : bs ≠ bm) (hq : bs ≠ gq) (hG : ∀ p ∈ S, G p ≠ bs) : SpI (w.alloc (.cells #[.int .i64 x.2, .bool lo, .bool fa, .bool re, .int .i64 sz, .slice fa0 len cap] 28)) base bm gq bs w.heap.size S D V G F vW Wk x lo fa re sz fa0 len cap ∧ Below w.heap.size w (w.alloc (.cells #[.int .i64 x.2, .bool lo, .bool fa, .bool re, .int .i64 sz, .slice fa0 len cap] 28)) := by
  have hb := awB w (.cells #[.int .i64 x.2, .bool lo, .bool fa, .bool re, .int .i64 sz, .slice fa0 len cap] 28)
  have hr := Row6.new w x.2 lo fa re sz fa0 len cap
  unfold frameC at hr
  have hmm := h.map.lt
  have hqq := h.qu.lt
  refine ⟨⟨h.below hb, (hb.block bs (lt_of_block hs)).trans hs, hr, hm, by omega, hq, by omega, hG, fun p hp => ?_⟩, hb⟩
  have := (h.rows.row p hp).lt
  omega
theorem size_alloc (w : World) (o : Obj) : (w.alloc o).heap.size = w.heap.size + 1 := by simp
theorem two_at {w : World} {b : Nat} {x y : Int} (h : w.heap[b]? = some (.cells #[.int .i64 x, .int .i64 y] 56 (0, 0))) : ∀ j u, (plC [(x, y)])[j]? = some u → w.cell? ((⟨b, 0, none⟩ : Addr).add j) = some u := by
  intro j u hj
  rw [Addr.add_lit, Nat.zero_add, cell_of_row _ _ j _ _ _ h]
  match j, hj with
  | 0, hj => simpa [plC, plCl] using hj
  | 1, hj => simpa [plC, plCl] using hj
  | j + 2, hj => simp [plC, plCl] at hj
theorem below_mapQ {w w1 w2 : World} {b : Nat} (hb : Below b w w1) (hg : w1.grownBy w2 (some b)) (hs : b ≤ w.heap.size) : Below b w w2 := Below.grown hb hg (Nat.le_trans hs hb.size) (fun q hq => by cases hq; exact Nat.le_refl _)
end Bw
end Go.Proofs.YtapjiopnjfldhaaDoor
namespace Go.Proofs.YtapjiopnjfldhaaDoor
open Go.ChangeShapes Go.WideShapes Go.ChangeAt Go.RowKit
namespace Bw
open Bm
open Go.ChangeMaps
set_option linter.unusedVariables false
theorem kyS_same {p q : Pl} (hp : okQ p) (hq : okQ q) : (kyS p).sameKey (kyS q) = decide (p = q) := by
  by_cases e : p = q
  · subst e
    rw [WideAt.sameKey_self (kyS_key hp)]
    simp
  · rw [Maps.sameKey_ne (fun h => e (kyS_inj hp hq h)), decide_eq_false e]
theorem keep_none {w w' : World} {b : Nat} {o : Obj} (hg : w.grownBy w' none) (h : w.heap[b]? = some o) : w'.heap[b]? = some o := (hg.block b (lt_of_block h) (by simp)).trans h
theorem neq_spot {x y u v : Int} (h : ¬ (x = u ∧ y = v)) : (x == u && y == v) = false := by
  rw [Bool.and_eq_false_iff]
  by_cases e : x = u
  · exact .inr (by rw [beq_eq_false_iff_ne]; exact fun e2 => h ⟨e, e2⟩)
  · exact .inl (by rw [beq_eq_false_iff_ne]; exact e)
/-- a map that has just these spots, each with 'true' -/
structure LfD (D : DVp) (T : List Pl) : Prop where
  at' : ∀ q, okQ q → D.atKey (kyS q) (.held (.bool false)) = .held (.bool (decide (q ∈ T)))
  has : ∀ q, okQ q → Maps.has D (kyS q) = decide (q ∈ T)
  size : Maps.size D = T.length
  keys : ∀ kl, Maps.has D kl = true → ∃ q ∈ T, kl = kyS q
  nodup : T.Nodup
  ok : ∀ p ∈ T, okQ p
theorem LfD.nil : LfD (.map []) [] := ⟨fun q _ => by simp; rfl, fun q _ => by simp; rfl, rfl, fun kl h => by simp [Maps.has] at h, List.nodup_nil, fun p hp => by cases hp⟩
theorem LfD.add {w : World} {b n : Nat} {D : DVp} {T : List Pl} (h : LfD D T) (hm : SqMap w b n D) {q : Pl} (hq : okQ q) (hn : q ∉ T) : LfD (D.put (kyS q) (.held (.bool true))) (T ++ [q]) := by
  have ht := World.ownsMap.isMap hm
  refine ⟨fun x hx => ?_, fun x hx => ?_, ?_, fun kl hk => ?_, ?_, fun p hp => ?_⟩
  · by_cases e : x = q
    · subst e; rw [Maps.atKey_put_same ht (kyS_key hq)]; simp
    · rw [Maps.atKey_put_other (fun e2 => e (kyS_inj hx hq e2)), h.at' x hx]; simp [e]
  · by_cases e : x = q
    · subst e; rw [Maps.has_put_same ht (kyS_key hq)]; simp
    · rw [Maps.has_put_other (fun e2 => e (kyS_inj hx hq e2)), h.has x hx]; simp [e]
  · rw [Maps.size_put (World.ownsMap.tidy hm sq_law), h.has q hq, decide_eq_false hn, h.size]
    simp
  · by_cases e : kl = kyS q
    · exact ⟨q, by simp, e⟩
    · rw [Maps.has_put_other e] at hk
      obtain ⟨p, hp, e2⟩ := h.keys kl hk
      exact ⟨p, List.mem_append_left _ hp, e2⟩
  · rw [List.nodup_append]
    exact ⟨h.nodup, by simp, fun a ha b hb e => by rw [List.mem_singleton] at hb; subst hb; subst e; exact hn ha⟩
  · rcases List.mem_append.1 hp with hp | hp
    · exact h.ok p hp
    · rw [List.mem_singleton.1 hp]; exact hq
def rmQ (T : List Pl) (q : Pl) : List Pl := T.filter fun p => p != q
theorem mem_rmQ {T : List Pl} {q x : Pl} : x ∈ rmQ T q ↔ x ∈ T ∧ x ≠ q := by simp [rmQ, List.mem_filter]
theorem LfD.del {w : World} {b n : Nat} {D : DVp} {T : List Pl} (h : LfD D T) (hm : SqMap w b n D) {q : Pl} (hn : q ∈ T) : LfD (D.del (kyS q)) (rmQ T q) ∧ (rmQ T q).length + 1 = T.length := by
  have hq := h.ok q hn
  have hmem : ∀ x, x ∈ rmQ T q ↔ x ∈ T ∧ x ≠ q := fun x => mem_rmQ
  have hsz := Maps.size_del (k := kyS q) (World.ownsMap.tidy hm sq_law)
  rw [h.has q hq, decide_eq_true hn, h.size] at hsz
  simp only [if_true] at hsz
  have hlen : (rmQ T q).length + 1 = T.length := by
    unfold rmQ
    have h1 := h.nodup.erase_eq_filter q
    rw [← h1, List.length_erase_of_mem hn]
    have : 0 < T.length := List.length_pos_of_mem hn
    omega
  refine ⟨⟨fun x hx => ?_, fun x hx => ?_, by omega, fun kl hk => ?_, h.nodup.filter _, fun p hp => h.ok p ((hmem p).1 hp).1⟩, hlen⟩
  · by_cases e : x = q
    · subst e; rw [Maps.atKey_del_same, decide_eq_false (fun h2 => ((hmem x).1 h2).2 rfl)]
    · rw [Maps.atKey_del_other (fun e2 => e (kyS_inj hx hq e2)), h.at' x hx]
      congr 3
      rw [eq_iff_iff, hmem x]
      exact ⟨fun h2 => ⟨h2, e⟩, fun h2 => h2.1⟩
  · by_cases e : x = q
    · subst e; rw [Maps.has_del_same, decide_eq_false (fun h2 => ((hmem x).1 h2).2 rfl)]
    · rw [Maps.has_del_other (fun e2 => e (kyS_inj hx hq e2)), h.has x hx]
      congr 1
      rw [eq_iff_iff, hmem x]
      exact ⟨fun h2 => ⟨h2, e⟩, fun h2 => h2.1⟩
  · by_cases e : kl = kyS q
    · rw [e, Maps.has_del_same] at hk; cases hk
    · rw [Maps.has_del_other e] at hk
      obtain ⟨p, hp, e2⟩ := h.keys kl hk
      exact ⟨p, (hmem p).2 ⟨hp, fun e3 => e (by rw [e2, e3])⟩, e2⟩
theorem lf_len {w : World} {b n : Nat} {D : DVp} {T : List Pl} (hm : SqMap w b n D) (h : LfD D T) (ty : TypeId) : (Builtin.len_ #[59] ty #[.map (some b)]).run Tryd.prog w = .ok (.int .i64 ((T.length : Nat) : Int)) w := by
  rw [World.ownsMap.len hm Tryd.underlying59 ty, h.size]
theorem SqMap.tightL {w : World} {b n : Nat} {D : DVp} {T : List Pl} (h : SqMap w b n D) (hD : LfD D T) : SqMap w b T.length D := by
  have := h.tight
  rwa [hD.size] at this
/-- what is still to come of a map's range, behind the step -/
theorem left_step {left : Lit → Bool} {p q : Pl} (hp : okQ p) (hq : okQ q) : (left (kyS p) && !(kyS p).sameKey (kyS q)) = false ↔ (left (kyS p) = false ∨ p = q) := by
  rw [kyS_same hp hq]
  by_cases e : p = q
  · simp [e]
  · simp [e]
/-- the step of a range over a map of spots: which spot, whatever its element -/
theorem wpList_next_sq (w : World) {ops : Array Oper} {rest : List Oper} {o : Oper} {a : Act} {Q : Exit → Act → World → Prop} (hg : o.guard = none) (it : Operand) (hop : o.op = Op.next it false) (b r n : Nat) (D : DVp) (left : Lit → Bool) (cnt : Nat)
    (hit : a.eval it = .pointer (some ⟨r, 0, none⟩)) (h : w.ranges Tryd.prog 56 RVp b r n D left cnt) (T : List Pl) (hk : ∀ kl, left kl = true → ∃ q ∈ T, kl = kyS q) (hok : ∀ q ∈ T, okQ q)
    (hDone : (∀ kl, left kl = false) → wpList Tryd.prog ops Q rest (a.put o.dst (.tuple #[.bool false])) w)
    (hMore : ∀ (xb xi : Int) (v : Value) (w' : World) (cnt' : Nat), (xb, xi) ∈ T → left (kyS (xb, xi)) = true → w'.ranges Tryd.prog 56 RVp b r n D (fun z => left z && !z.sameKey (kyS (xb, xi))) cnt' → cnt' < cnt →
      w.grownBy w' (some r) → w'.heap.size = w.heap.size → (Instr.entry (.pointer (some ⟨r, 0, none⟩))).run Tryd.prog w' = .ok (.tuple #[.agg #[.int .i64 xb, .int .i64 xi], v]) w' → wpList Tryd.prog ops Q rest (a.put o.dst (.tuple #[.bool true, .agg #[.int .i64 xb, .int .i64 xi], v])) w') :
    wpList Tryd.prog ops Q (o :: rest) a w := by
  refine wpList_next_ranges w hg it hop 56 sq_law RVp (fun x : Value => x) (fun v : Value => v) (fun key kl _ => ⟨key, rfl⟩) (fun v y _ => ⟨v, rfl⟩) b r n D left cnt hit h (fun _ hl => hDone hl) (fun x c kl y w' cnt' hkey hlk hv hat hrg hlt hgr hsz hen => ?_)
  obtain ⟨q, hq, rfl⟩ := hk kl hlk
  have e : x = plV q := sq_law.inj hkey (kyQ_some (hok q hq))
  subst e
  exact hMore q.1 q.2 c w' cnt' hq hlk hrg hlt hgr hsz hen
/-- 'left[t]' -/
theorem wpList_lookup_lf (w : World) {ops : Array Oper} {rest : List Oper} {o : Oper} {a : Act} {Q : Exit → Act → World → Prop} (hg : o.guard = none) (m x : Operand) (hop : o.op = Op.lookup 59 m x false)
    (b n : Nat) (D : DVp) (T : List Pl) (hm : a.eval m = .map (some b)) (hown : SqMap w b n D) (hD : LfD D T) (xb xi : Int) (hq : okQ (xb, xi)) (hx : a.eval x = .agg #[.int .i64 xb, .int .i64 xi])
    (hK : wpList Tryd.prog ops Q rest (a.put o.dst (.bool (decide ((xb, xi) ∈ T)))) w) : wpList Tryd.prog ops Q (o :: rest) a w := by
  refine wpList_plain hg fun K' hK' => ?_
  obtain ⟨v, ps, hrun, hv⟩ := World.ownsMap.lookup hown sq_law Tryd.underlying59 (zero_boolS w) (zd := .held (.bool false)) (zp := []) rfl (kyQ_some hq)
  rw [hD.at' _ hq] at hv
  unfold RVp at hv
  simp only [Option.some.injEq, Prod.mk.injEq, DataW.held.injEq] at hv
  rw [hv.1] at hrun
  unfold plV at hrun
  simp only at hrun
  unfold Oper.wp
  simp [execOp, hop, hm, hx, hrun, Result.andThen]
  exact hK' _ _ hK
/-- 'next[s]' -/
theorem wpList_lookup_nx (w : World) {ops : Array Oper} {rest : List Oper} {o : Oper} {a : Act} {Q : Exit → Act → World → Prop} (hg : o.guard = none) (m x : Operand) (hop : o.op = Op.lookup 54 m x false)
    (b n : Nat) (D : DVp) (S : List Pl) (V : Pl → Value) (hm : a.eval m = .map (some b)) (hown : SqMap w b n D) (hD : Nxt D S V) (xb xi : Int) (hq : okQ (xb, xi)) (hS : (xb, xi) ∈ S) (hx : a.eval x = .agg #[.int .i64 xb, .int .i64 xi])
    (hK : wpList Tryd.prog ops Q rest (a.put o.dst (V (xb, xi))) w) : wpList Tryd.prog ops Q (o :: rest) a w := by
  refine wpList_plain hg fun K' hK' => ?_
  obtain ⟨v, ps, hrun, hv⟩ := World.ownsMap.lookup hown sq_law Tryd.underlying54 (zero_sps w) (zd := .held (.slice none 0 0)) (zp := []) rfl (kyQ_some hq)
  rw [hD.at' _ hq, if_pos hS] at hv
  unfold RVp at hv
  simp only [Option.some.injEq, Prod.mk.injEq, DataW.held.injEq] at hv
  rw [hv.1] at hrun
  unfold plV at hrun
  simp only at hrun
  unfold Oper.wp
  simp [execOp, hop, hm, hx, hrun, Result.andThen]
  exact hK' _ _ hK
set_option maxHeartbeats 1000000 in
/-- the closure: whether a spot is left -/
theorem leftQ_any (x y : Int) (bv bl n : Nat) (D : DVp) (T : List Pl) (w : World) (hV : w.cell? ⟨bv, 0, none⟩ = some (.map (some bl))) (hM : SqMap w bl n D) (hD : LfD D T) (hq : okQ (x, y)) :
    Calls Tryd.prog 21 #[.agg #[.int .i64 x, .int .i64 y], .pointer (some ⟨bv, 0, none⟩)] w fun e w' => e = .returned (.bool (decide ((x, y) ∈ T))) ∧ Below w.heap.size w w' := by
  have hb := awB w (.cells #[.int .i64 x, .int .i64 y] 56)
  have HB := Hid.mk hb
  have HM := Hid.mk (hM.kept hb)
  have hV1 := cell_kept hb hV
  have hh := heap_alloc_new w (.cells #[.int .i64 x, .int .i64 y] 56)
  have c0 := cell_of_row _ _ 0 _ _ _ hh
  have c1 := cell_of_row _ _ 1 _ _ _ hh
  have HD := Hid.mk hD
  have HQ := Hid.mk hq
  clear hb hM hD hq hV hh
  go_enter Tryd.func21, Tryd.ntmps21
  go_wp2_with (at_lookup; refine wpList_lookup_lf _ rfl _ _ rfl bl n D T rfl HM.out HD.out x y HQ.out rfl ?_)
  go_ret
  exact ⟨rfl, HB.out⟩
theorem enter_left : ∀ args w, (callFunc 21 args).run Tryd.prog w = .ok (.enter 21 args) w := enters_of Tryd.func21 (by kernel_rfl) rfl
/-- spots in a row, behind an address -/
structure IsSps (w : World) (x : Addr) (c : Nat) (l : List Pl) : Prop where
  le : l.length ≤ c
  max : c ≤ maxLen
  cell : ∀ k, k < l.length → w.cell? (x.add (k * 2)) = some (.int .i64 (l.getD k (0, 0)).1) ∧ w.cell? ⟨(x.add (k * 2)).block, (x.add (k * 2)).off + 1, none⟩ = some (.int .i64 (l.getD k (0, 0)).2)
theorem IsSps.kept {w w' : World} {x : Addr} {c : Nat} {l : List Pl} (h : IsSps w x c l) (hb : Below w.heap.size w w') : IsSps w' x c l :=
  ⟨h.le, h.max, fun k hk => ⟨cell_kept hb (h.cell k hk).1, cell_kept hb (h.cell k hk).2⟩⟩
theorem QpAt.sps {w : World} {base g : Nat} {v : Value} {l : List Pl} (h : QpAt w base g v l) : ∃ x c, v = .slice (some x) l.length c ∧ IsSps w x c l := by
  obtain ⟨off, c, cur, rfl, h2, h3, h4, h5, h6⟩ := h.ex
  refine ⟨⟨g, off, none⟩, c, rfl, h3, h4, fun k hk => ?_⟩
  have e : l.getD k (0, 0) = l[k] := by simp [List.getD, hk]
  have key : ∀ j u, j < 2 → (plCl l[k])[j]? = some u → cur[off + (k * 2 + j)]? = some u := fun j u hj hu => by
    refine h6 (k * 2 + j) u ?_
    have h7 : plC l = plC (l.take k) ++ (plCl l[k] ++ plC (l.drop (k + 1))) := by
      rw [show plCl l[k] ++ plC (l.drop (k + 1)) = plC (l[k] :: l.drop (k + 1)) by unfold plC; rw [List.flatMap_cons], ← plC_two, List.getElem_cons_drop hk, List.take_append_drop]
    have h8 : (plC (l.take k)).length = k * 2 := by rw [plC_len, List.length_take, Nat.min_eq_left (Nat.le_of_lt hk)]
    rw [h7, List.getElem?_append_right (by omega), h8, Nat.add_sub_cancel_left, List.getElem?_append_left (by show j < 2; exact hj)]
    exact hu
  rw [Addr.add_lit, e]
  refine ⟨?_, ?_⟩
  · rw [cell_of_row _ _ _ _ _ _ h2]
    exact key 0 _ (by omega) rfl
  · show w.cell? ⟨g, off + k * 2 + 1, none⟩ = _
    rw [cell_of_row _ _ _ _ _ _ h2, Nat.add_assoc]
    exact key 1 _ (by omega) rfl
theorem any_hitQ (p : Pl → Bool) {l : List Pl} {k : Nat} (hk : k < l.length) (h : p (l.getD k (0, 0)) = true) : l.any p = true := by
  rw [List.any_eq_true]
  exact ⟨l[k], List.getElem_mem hk, by rw [← h]; simp [List.getD, hk]⟩
theorem any_missQ (p : Pl → Bool) {l : List Pl} (h : ∀ j, j < l.length → p (l.getD j (0, 0)) = false) : l.any p = false := by
  rw [List.any_eq_false]
  intro x hx
  obtain ⟨i, hi, rfl⟩ := List.mem_iff_getElem.1 hx
  have := h i hi
  rw [show l.getD i (0, 0) = l[i] by simp [List.getD, hi]] at this
  rw [this]; simp
set_option maxHeartbeats 2000000 in
theorem indexFuncQ_any (g : Nat) (lb : Array Value) (eg : ∀ args w, (callFunc g args).run Tryd.prog w = .ok (.enter g args) w) (p : Pl → Bool) (x : Addr) (c n : Nat) (l : List Pl) (w : World) (hF : IsSps w x c l) (hn : l.length = n)
    (hp : ∀ W q, q ∈ l → Below w.heap.size w W → Calls Tryd.prog g (#[.agg #[.int .i64 q.1, .int .i64 q.2]] ++ lb) W fun e w' => e = .returned (.bool (p q)) ∧ Below W.heap.size W w') :
    Calls Tryd.prog 49 #[.slice (some x) n c, .func (.func g) #[] lb] w fun e w' => ∃ r : Int, e = .returned (.int .i64 r) ∧ decide (0 ≤ r) = l.any p ∧ Below w.heap.size w w' := by
  have HF := Hid.mk hF
  have HP := Hid.mk hp
  have HN := Hid.mk hn
  have hn63 : n ≤ 9223372036854775807 := by have h1 := hF.le; have h2 := hF.max; unfold maxLen at h2; omega
  clear hF hp hn
  go_enter Tryd.func49, Tryd.ntmps49
  go_wp2_with fail
  go_loopw [8] (fun i wr => ∃ k : Nat, k ≤ n ∧ i = .int .i64 k ∧ Hid (∀ j, j < k → p (l.getD j (0, 0)) = false) ∧ Hid (Below w.heap.size w wr)) (fun i _ => n - (intOf i).toNat)
  case atStart => exact ⟨0, Nat.zero_le _, rfl, Hid.mk (fun j hj => absurd hj (Nat.not_lt_zero _)), Hid.mk (Below.refl _ _)⟩
  case round =>
    obtain ⟨k, hk, rfl, HA, HB⟩ := hrel
    by_cases hlt : k < n
    · have hlt' : (k : Int) < (n : Int) := by omega
      have hkl : k < l.length := by rw [HN.out]; exact hlt
      obtain ⟨c0, c1⟩ := (HF.out.kept HB.out).cell k hkl
      have hmem : l.getD k (0, 0) ∈ l := by rw [show l.getD k (0, 0) = l[k] by simp [List.getD, hkl]]; exact List.getElem_mem hkl
      have hcall := HP.out wr _ hmem HB.out
      obtain ⟨y, hy⟩ : ∃ y, y = l.getD k (0, 0) := ⟨_, rfl⟩
      rw [← hy] at c0 c1 hcall
      have HYY := Hid.mk hy
      clear hy hmem
      cases hq : p y with
      | true =>
        rw [hq] at hcall
        have HC := Hid.mk hcall
        have HQ := Hid.mk hq
        clear hcall hq
        go_wp2_with (go_at_fn g; refine HC.out.mono ?_; rintro e w1 ⟨rfl, hb1⟩)
        have HB1 := Hid.mk (bl2 HB.out hb1)
        clear hb1
        go_ret
        refine ⟨_, rfl, ?_, HB1.out⟩
        rw [any_hitQ p hkl (by rw [← HYY.out]; exact HQ.out)]
        simp
      | false =>
        rw [hq] at hcall
        have HC := Hid.mk hcall
        have HQ := Hid.mk hq
        clear hcall hq
        go_wp2_with (go_at_fn g; refine HC.out.mono ?_; rintro e w1 ⟨rfl, hb1⟩)
        have HB1 := Hid.mk (bl2 HB.out hb1)
        clear hb1
        go_roundw
        case rel =>
          refine ⟨k + 1, by omega, by go_num, Hid.mk fun j hj => ?_, HB1⟩
          by_cases e : j = k
          · subst e; rw [← HYY.out]; exact HQ.out
          · exact HA.out j (by omega)
        case measure => simp [intOf]; omega
    · have e : k = n := by omega
      subst e
      go_wp2_with fail
      go_ret
      refine ⟨-1, rfl, ?_, HB.out⟩
      rw [any_missQ p (fun j hj => HA.out j (by rw [← HN.out]; exact hj))]
      rfl
set_option maxHeartbeats 2000000 in
theorem containsFuncQ_any (g : Nat) (lb : Array Value) (eg : ∀ args w, (callFunc g args).run Tryd.prog w = .ok (.enter g args) w) (p : Pl → Bool) (x : Addr) (c n : Nat) (l : List Pl) (w : World) (hF : IsSps w x c l) (hn : l.length = n)
    (hp : ∀ W q, q ∈ l → Below w.heap.size w W → Calls Tryd.prog g (#[.agg #[.int .i64 q.1, .int .i64 q.2]] ++ lb) W fun e w' => e = .returned (.bool (p q)) ∧ Below W.heap.size W w') :
    Calls Tryd.prog 20 #[.slice (some x) n c, .func (.func g) #[] lb] w fun e w' => e = .returned (.bool (l.any p)) ∧ Below w.heap.size w w' := by
  have HI := Hid.mk (indexFuncQ_any g lb eg p x c n l w hF hn hp)
  clear hF hp eg hn
  go_enter Tryd.func20, Tryd.ntmps20
  go_wp2_with fail
  refine HI.out.mono ?_
  rintro e w1 ⟨r, rfl, hr, hb⟩
  have HR := Hid.mk hr
  have HB := Hid.mk hb
  clear hr hb
  go_wp2_with fail
  go_ret
  exact ⟨by rw [← HR.out]; rfl, HB.out⟩
/-- 'slices.ContainsFunc(next[s], ..)': whether something that is carried on is left -/
theorem someLeft_any (base gq g bv bl n : Nat) (v : Value) (l : List Pl) (D : DVp) (T : List Pl) (w : World) (hQ : QpAt w base g v l) (hok : ∀ q ∈ l, okQ q) (hV : w.cell? ⟨bv, 0, none⟩ = some (.map (some bl))) (hM : SqMap w bl n D) (hD : LfD D T) :
    Calls Tryd.prog 20 #[v, .func (.func 21) #[] #[.pointer (some ⟨bv, 0, none⟩)]] w fun e w' => e = .returned (.bool (l.any fun q => decide (q ∈ T))) ∧ Below w.heap.size w w' := by
  obtain ⟨x, c, rfl, hS⟩ := hQ.sps
  exact containsFuncQ_any _ _ enter_left (fun q => decide (q ∈ T)) x c l.length l w hS rfl (fun W q hq hb => leftQ_any q.1 q.2 bv bl n D T W (cell_kept hb hV) (hM.kept hb) hD (hok q hq))
end Bw
end Go.Proofs.YtapjiopnjfldhaaDoor
