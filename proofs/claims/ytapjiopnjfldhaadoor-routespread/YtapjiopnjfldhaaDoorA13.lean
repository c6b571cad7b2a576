/- The variables of route.webOf: the places, their numbers in a map; what its own function answers. -/
import Derived.Test.YtapjiopnjfldhaaDoorRtState
import Derived.Test.YtapjiopnjfldhaaDoorA1
import Derived.Maps.OwnSet
import Derived.DeepKeys4
import Derived.Shelf.Abstract
import Derived.Deep.OwnRows
namespace Go.Proofs.YtapjiopnjfldhaaDoor
open Go.ChangeShapes Go.WideShapes Go.ChangeAt Go.RowKit
namespace Bw
/-- a frame on a bus -/
abbrev Pl := Int × Int
def okQ (p : Pl) : Prop := (0 ≤ p.1 ∧ p.1 < 4) ∧ (0 ≤ p.2 ∧ p.2 ≤ 536870911)
/-- what routes carry from a place -/
def nxt (rs : List Rt) (lo fa re : Bool) (sz : Int) (len : Nat) (p : Pl) : List Pl := rs.filterMap fun r => if carB r p.1 p.2.toNat lo fa re sz len = true then some (r.tb, p.2 + r.add) else none
theorem nxt_add (rs : List Rt) (r : Rt) (lo fa re : Bool) (sz : Int) (len : Nat) (p : Pl) : nxt (rs ++ [r]) lo fa re sz len p = nxt rs lo fa re sz len p ++ (if carB r p.1 p.2.toNat lo fa re sz len = true then [(r.tb, p.2 + r.add)] else []) := by
  unfold nxt
  rw [List.filterMap_append]
  congr 1
  by_cases h : carB r p.1 p.2.toNat lo fa re sz len = true
  · simp [h]
  · simp [h]
/-- with one place more, where there is room; its number -/
def addP (F : Nat) (P : List Pl) (q : Pl) : List Pl := if q ∈ P then P else if P.length < F then P ++ [q] else P
def numB (F : Nat) (P : List Pl) (q : Pl) : Bool := decide (q ∈ P) || decide (P.length < F)
def numI (F : Nat) (P : List Pl) (q : Pl) : Nat := if q ∈ P then P.idxOf q else if P.length < F then P.length else 0
/-- the numbers of those that have one -/
def idxL (P : List Pl) (qs : List Pl) : List Int := (qs.filter (fun q => decide (q ∈ P))).map fun q => ((P.idxOf q : Nat) : Int)
theorem addP_in {F : Nat} {P : List Pl} {q : Pl} (h : q ∈ P) : addP F P q = P ∧ numB F P q = true ∧ numI F P q = P.idxOf q := by
  unfold addP numB numI; simp [h]
theorem addP_new {F : Nat} {P : List Pl} {q : Pl} (h : q ∉ P) (hl : P.length < F) : addP F P q = P ++ [q] ∧ numB F P q = true ∧ numI F P q = P.length := by
  unfold addP numB numI; simp [h, hl]
theorem addP_full {F : Nat} {P : List Pl} {q : Pl} (h : q ∉ P) (hl : ¬ P.length < F) : addP F P q = P ∧ numB F P q = false ∧ numI F P q = 0 := by
  unfold addP numB numI; simp [h, hl]
/-- P has become P': as it was, or with more behind it, where there was room -/
def Grw (F : Nat) (P P' : List Pl) : Prop := P' = P ∨ (P.length < F ∧ ∃ X, P' = P ++ X)
theorem Grw.refl (F : Nat) (P : List Pl) : Grw F P P := .inl rfl
theorem addP_grw (F : Nat) (P : List Pl) (q : Pl) : Grw F P (addP F P q) := by
  by_cases h : q ∈ P
  · exact .inl (addP_in h).1
  · by_cases hl : P.length < F
    · exact .inr ⟨hl, [q], (addP_new h hl).1⟩
    · exact .inl (addP_full h hl).1
theorem Grw.trans {F : Nat} {P Q R : List Pl} (h : Grw F P Q) (h' : Grw F Q R) : Grw F P R := by
  rcases h with rfl | ⟨hl, X, rfl⟩
  · exact h'
  · rcases h' with rfl | ⟨_, Y, rfl⟩
    · exact .inr ⟨hl, X, rfl⟩
    · exact .inr ⟨hl, X ++ Y, by rw [List.append_assoc]⟩
theorem Grw.mem {F : Nat} {P Q : List Pl} (h : Grw F P Q) {q : Pl} (hq : q ∈ P) : q ∈ Q := by
  rcases h with rfl | ⟨_, X, rfl⟩
  · exact hq
  · exact List.mem_append_left _ hq
theorem Grw.le {F : Nat} {P Q : List Pl} (h : Grw F P Q) : P.length ≤ Q.length := by
  rcases h with rfl | ⟨_, X, rfl⟩
  · exact Nat.le_refl _
  · simp
theorem Grw.idx {F : Nat} {P Q : List Pl} (h : Grw F P Q) {q : Pl} (hq : q ∈ P) : Q.idxOf q = P.idxOf q := by
  rcases h with rfl | ⟨_, X, rfl⟩
  · rfl
  · rw [List.idxOf_append, if_pos hq]
theorem Grw.get {F : Nat} {P Q : List Pl} (h : Grw F P Q) {i : Nat} (hi : i < P.length) (z : Pl) : Q.getD i z = P.getD i z := by
  rcases h with rfl | ⟨_, X, rfl⟩
  · rfl
  · simp [List.getD, List.getElem?_append_left hi]
/-- full, or with all that these are carried on to -/
def Shut (F : Nat) (P qs : List Pl) : Prop := F ≤ P.length ∨ ∀ q ∈ qs, q ∈ P
theorem Shut.grw {F : Nat} {P Q qs : List Pl} (h : Shut F P qs) (hg : Grw F P Q) : Shut F Q qs := by
  rcases h with h | h
  · rcases hg with rfl | ⟨hl, _⟩
    · exact .inl h
    · omega
  · exact .inr fun q hq => hg.mem (h q hq)
theorem idxL_grw {F : Nat} {P Q qs : List Pl} (h : Shut F P qs) (hg : Grw F P Q) : idxL Q qs = idxL P qs := by
  rcases hg with rfl | ⟨hl, X, rfl⟩
  · rfl
  · have h' : ∀ q ∈ qs, q ∈ P := by
      rcases h with h | h
      · omega
      · exact h
    unfold idxL
    rw [List.filter_eq_self.2 (fun q hq => by simpa using List.mem_append_left X (h' q hq)), List.filter_eq_self.2 (fun q hq => by simpa using h' q hq)]
    exact List.map_congr_left fun q hq => by rw [List.idxOf_append, if_pos (h' q hq)]
theorem idxL_add (P qs : List Pl) (q : Pl) : idxL P (qs ++ [q]) = idxL P qs ++ (if q ∈ P then [((P.idxOf q : Nat) : Int)] else []) := by
  unfold idxL
  rw [List.filter_append, List.map_append]
  congr 1
  by_cases h : q ∈ P <;> simp [h]
/-- one more of a place's next ones -/
theorem idxL_step {F : Nat} {P qs : List Pl} (q : Pl) (h : Shut F P qs) : idxL (addP F P q) (qs ++ [q]) = idxL P qs ++ (if numB F P q = true then [((numI F P q : Nat) : Int)] else []) ∧ Shut F (addP F P q) (qs ++ [q]) := by
  have hg := addP_grw F P q
  have h1 := idxL_grw h hg
  have h2 := h.grw hg
  rw [idxL_add, h1]
  by_cases hq : q ∈ P
  · obtain ⟨e1, e2, e3⟩ := addP_in (F := F) hq
    rw [e1] at h2 ⊢
    rw [e2, e3, if_pos hq, if_pos rfl]
    refine ⟨rfl, ?_⟩
    rcases h2 with h2 | h2
    · exact .inl h2
    · exact .inr fun x hx => by
        rcases List.mem_append.1 hx with hx | hx
        · exact h2 x hx
        · rw [List.mem_singleton] at hx; subst hx; exact hq
  · by_cases hl : P.length < F
    · obtain ⟨e1, e2, e3⟩ := addP_new hq hl
      rw [e1] at h2 ⊢
      rw [e2, e3, if_pos (by simp), if_pos rfl]
      refine ⟨by rw [List.idxOf_append, if_neg hq]; simp, ?_⟩
      rcases h2 with h2 | h2
      · exact .inl h2
      · exact .inr fun x hx => by
          rcases List.mem_append.1 hx with hx | hx
          · exact h2 x hx
          · exact List.mem_append_right _ hx
    · obtain ⟨e1, e2, e3⟩ := addP_full hq hl
      rw [e1, e2, if_neg hq, if_neg (by simp)]
      exact ⟨rfl, .inl (by omega)⟩
/-- what comes of a place, as far as it has been looked at -/
structure Web (F : Nat) (nx : Pl → List Pl) (s : Pl) (P : List Pl) (at' : Nat) : Prop where
  head : P.head? = some s
  nodup : P.Nodup
  len : P.length ≤ F
  le : at' ≤ P.length
  ok : ∀ p ∈ P, okQ p
  shut : ∀ i, i < at' → Shut F P (nx (P.getD i s))
  from' : ∀ i, 0 < i → i < P.length → ∃ j, j < i ∧ P.getD i s ∈ nx (P.getD j s)
theorem addP_nodup {F : Nat} {P : List Pl} {q : Pl} (h : P.Nodup) : (addP F P q).Nodup := by
  by_cases hq : q ∈ P
  · rw [(addP_in hq).1]; exact h
  · by_cases hl : P.length < F
    · rw [(addP_new hq hl).1, List.nodup_append]
      exact ⟨h, by simp, fun a ha b hb e => by rw [List.mem_singleton] at hb; subst hb; subst e; exact hq ha⟩
    · rw [(addP_full hq hl).1]; exact h
theorem addP_len {F : Nat} {P : List Pl} {q : Pl} (h : P.length ≤ F) : (addP F P q).length ≤ F := by
  by_cases hq : q ∈ P
  · rw [(addP_in hq).1]; exact h
  · by_cases hl : P.length < F
    · rw [(addP_new hq hl).1]; simp; omega
    · rw [(addP_full hq hl).1]; exact h
/-- one place more that is carried from one of those -/
theorem Web.add {F : Nat} {nx : Pl → List Pl} {s : Pl} {P : List Pl} {at' : Nat} (h : Web F nx s P at') {q : Pl} (hq : okQ q) {j : Nat} (hj : j < P.length) (hn : q ∈ nx (P.getD j s)) : Web F nx s (addP F P q) at' := by
  have hg := addP_grw F P q
  by_cases hm : q ∈ P
  · rw [(addP_in hm).1]; exact h
  · by_cases hl : P.length < F
    · have e := (addP_new hm hl).1
      refine ⟨?_, addP_nodup h.nodup, addP_len h.len, Nat.le_trans h.le hg.le, ?_, ?_, ?_⟩
      · rw [e]
        have := h.head
        cases P with
        | nil => cases this
        | cons a l => simpa using this
      · intro p hp
        rw [e] at hp
        rcases List.mem_append.1 hp with hp | hp
        · exact h.ok p hp
        · rw [List.mem_singleton] at hp; subst hp; exact hq
      · intro i hi
        rw [hg.get (Nat.lt_of_lt_of_le hi h.le)]
        exact (h.shut i hi).grw hg
      · intro i h0 hi
        by_cases hi2 : i < P.length
        · obtain ⟨k, hk, hk2⟩ := h.from' i h0 hi2
          refine ⟨k, hk, ?_⟩
          rw [hg.get hi2, hg.get (by omega)]
          exact hk2
        · rw [e] at hi
          have hi3 : i = P.length := by simp at hi; omega
          subst hi3
          refine ⟨j, hj, ?_⟩
          rw [hg.get hj]
          have : (addP F P q).getD P.length s = q := by rw [e]; simp [List.getD]
          rw [this]
          exact hn
    · rw [(addP_full hm hl).1]; exact h
end Bw
end Go.Proofs.YtapjiopnjfldhaaDoor
namespace Go.Proofs.YtapjiopnjfldhaaDoor
open Go.ChangeShapes Go.WideShapes Go.ChangeAt Go.RowKit
namespace Bw
/-- a variable of one cell -/
def BoxAt (w : World) (g : Nat) (t : TypeId) (v : Value) : Prop := w.heap[g]? = some (.cells #[v] t (0, 0))
theorem BoxAt.lt {w : World} {g : Nat} {t : TypeId} {v : Value} (h : BoxAt w g t v) : g < w.heap.size := by
  rcases Nat.lt_or_ge g w.heap.size with h' | h'
  · exact h'
  · unfold BoxAt at h; rw [Array.getElem?_eq_none h'] at h; cases h
theorem BoxAt.cell {w : World} {g : Nat} {t : TypeId} {v : Value} (h : BoxAt w g t v) : w.cell? ⟨g, 0, none⟩ = some v := by
  rw [cell_of_row w g 0 _ _ _ h]; rfl
theorem BoxAt.frozen {w : World} {g : Nat} {t : TypeId} {v : Value} (h : BoxAt w g t v) : w.frozen? ⟨g, 0, none⟩ = false := frozen_of_row w g 0 _ _ h
theorem BoxAt.kept {w w' : World} {g : Nat} {t : TypeId} {v : Value} (h : BoxAt w g t v) (hb : Below w.heap.size w w') : BoxAt w' g t v := by
  unfold BoxAt; rw [hb.block g h.lt]; exact h
theorem BoxAt.set {w : World} {g : Nat} {t : TypeId} {v : Value} (h : BoxAt w g t v) (u : Value) : BoxAt (w.setCell ⟨g, 0, none⟩ u) g t u := heap_setCell_same w g 0 _ t u h
theorem BoxAt.other {w : World} {g k : Nat} {t : TypeId} {v : Value} (h : BoxAt w g t v) (u : Value) (hk : g ≠ k) : BoxAt (w.setCell ⟨k, 0, none⟩ u) g t v := by
  unfold BoxAt; rw [Below.heap_setCell _ _ _ _ hk]; exact h
/-- of what was there only these blocks have turned -/
structure Tch (gs : List Nat) (w w' : World) : Prop where
  os : w'.os = w.os
  tape : w'.tape = w.tape
  output : w'.output = w.output
  size : w.heap.size ≤ w'.heap.size
  block : ∀ k, k < w.heap.size → k ∉ gs → w'.heap[k]? = w.heap[k]?
theorem Tch.refl (gs : List Nat) (w : World) : Tch gs w w := ⟨rfl, rfl, rfl, Nat.le_refl _, fun _ _ _ => rfl⟩
theorem Tch.of {gs : List Nat} {w w' : World} (h : Below w.heap.size w w') : Tch gs w w' := ⟨h.os, h.tape, h.output, h.size, fun k hk _ => h.block k hk⟩
theorem Tch.trans {gs : List Nat} {w a b : World} (h1 : Tch gs w a) (h2 : Tch gs a b) : Tch gs w b :=
  ⟨h2.os.trans h1.os, h2.tape.trans h1.tape, h2.output.trans h1.output, Nat.le_trans h1.size h2.size, fun k hk hg => (h2.block k (Nat.lt_of_lt_of_le hk h1.size) hg).trans (h1.block k hk hg)⟩
theorem Tch.set {gs : List Nat} {w a : World} (h : Tch gs w a) {g : Nat} (hg : g ∈ gs) (u : Value) : Tch gs w (a.setCell ⟨g, 0, none⟩ u) :=
  h.trans ⟨rfl, rfl, rfl, by simp [World.setCell], fun k _ hk => Below.heap_setCell _ _ _ _ (fun e => hk (e ▸ hg))⟩
theorem Tch.setK {gs : List Nat} {w a : World} (h : Tch gs w a) {g : Nat} (hg : g ∈ gs) (k : Nat) (u : Value) : Tch gs w (a.setCell ⟨g, k, none⟩ u) :=
  h.trans ⟨rfl, rfl, rfl, by simp [World.setCell], fun q _ hq => Below.heap_setCell _ _ _ _ (fun e => hq (e ▸ hg))⟩
theorem Tch.below {gs : List Nat} {w a b : World} {B : Nat} (h : Below B w a) (ht : Tch gs a b) (hg : ∀ g ∈ gs, B ≤ g) (hB : B ≤ w.heap.size) : Below B w b :=
  ⟨ht.os.trans h.os, ht.tape.trans h.tape, ht.output.trans h.output, Nat.le_trans h.size ht.size, fun k hk => (ht.block k (by have := h.size; omega) (fun e => by have := hg k e; omega)).trans (h.block k hk)⟩
theorem Tch.box {gs : List Nat} {w w' : World} (ht : Tch gs w w') {g : Nat} {t : TypeId} {v : Value} (h : BoxAt w g t v) (hg : g ∉ gs) : BoxAt w' g t v := by
  unfold BoxAt; rw [ht.block g h.lt hg]; exact h

end Bw
end Go.Proofs.YtapjiopnjfldhaaDoor
namespace Go.Proofs.YtapjiopnjfldhaaDoor
open Go.ChangeShapes Go.WideShapes Go.ChangeAt Go.RowKit
namespace Bw
set_option linter.unusedVariables false
def plV (p : Pl) : Value := .agg #[.int .i64 p.1, .int .i64 p.2]
def plCl (p : Pl) : List Value := [.int .i64 p.1, .int .i64 p.2]
def plC (l : List Pl) : List Value := l.flatMap plCl
theorem plC_add (l : List Pl) (p : Pl) : plC (l ++ [p]) = plC l ++ plCl p := by unfold plC; rw [List.flatMap_append]; simp
/-- a place as a key -/
theorem pl_laid : laidOutB Tryd.prog = true := by kernel_rfl
theorem pl_row : (106 : TypeId) < Tryd.prog.types.size := of_decide_eq_true (by kernel_rfl)
theorem pl_wide : (match Tryd.prog.underlying 106 with | some (.array _ _) | some (.struct _) => true | _ => false) = true := by rw [Tryd.underlying106]
theorem pl_at : Tryd.prog.keyTypeAt 2 106 = true := by kernel_rfl
set_option maxRecDepth 100000 in
theorem pl_klaw : WideMaps.KeyLaw Tryd.prog 106 := deep_law_laid (P := Tryd.prog) (m := 2) (k := 106) pl_laid (Nat.le_of_ble_eq_true rfl) pl_row pl_at pl_wide
theorem pl_law : Maps.Keyed Tryd.prog 106 := Maps.Keyed.of_law pl_klaw
theorem pl_cells : Tryd.prog.cellsOf 106 = 2 := by kernel_rfl
theorem pl_deep : Tryd.prog.keyType 106 = true := by kernel_rfl
theorem wf_i64 {x : Int} (h0 : 0 ≤ x) (h1 : x ≤ 536870911) : (Lit.int .i64 x).wf = true := by
  unfold Lit.wf
  rw [Bool.and_eq_true, decide_eq_true_eq, decide_eq_true_eq]
  have e1 : IntKind.i64.min = -9223372036854775808 := by decide
  have e2 : IntKind.i64.max = 9223372036854775807 := by decide
  rw [e1, e2]
  omega
theorem pl_sz : decide (2 ≤ Tryd.prog.types.size) = true := by kernel_rfl
def kyP (p : Pl) : Lit := .string (keyBytes [.int .i64 p.1, .int .i64 p.2])
theorem kyP_some {p : Pl} (h : okQ p) : keyOf Tryd.prog 106 (plV p) = some (kyP p) := by
  obtain ⟨⟨a0, a1⟩, b0, b1⟩ := h
  obtain ⟨x, y⟩ := p
  simp only at a0 a1 b0 b1
  have w1 : (Lit.int .i64 x).wf = true := wf_i64 (by omega) (by omega)
  have w2 : (Lit.int .i64 y).wf = true := wf_i64 (by omega) (by omega)
  have hf : (plV (x, y)).formed Tryd.prog 106 = true := by simp [plV, Value.formed, Tryd.underlying106, pl_cells]
  have hl : Tryd.prog.keyLits (Tryd.prog.types.size + 1) 106 (plV (x, y)).cells.toList = some [.int .i64 x, .int .i64 y] := by
    obtain ⟨m, hm⟩ : ∃ m, Tryd.prog.types.size + 1 = m + 2 := ⟨Tryd.prog.types.size - 1, by have := of_decide_eq_true pl_sz; omega⟩
    rw [hm]
    simp [Program.keyLits, Tryd.underlying106, pl_cells, plV, Value.cells, Tryd.underlying3, w1, w2, show Tryd.prog.cellsOf 3 = 1 by kernel_rfl]
  unfold keyOf
  rw [Tryd.underlying106]
  simp only [pl_deep, hf, Bool.and_self, if_true]
  rw [hl]
  rfl
theorem kyP_key {p : Pl} (h : okQ p) : WideAt.IsKeyLit (kyP p) := by
  have h1 := kyP_some h
  generalize kyP p = l at h1
  exact pl_law.key h1
theorem kyP_inj {p q : Pl} (hp : okQ p) (hq : okQ q) (h : kyP p = kyP q) : p = q := by
  have h1 := kyP_some hp
  rw [h] at h1
  have h2 := pl_law.inj h1 (kyP_some hq)
  unfold plV at h2
  simp only [Value.agg.injEq] at h2
  have h3 := congrArg Array.toList h2
  simp only [List.cons.injEq, Value.int.injEq, true_and, and_true] at h3
  exact Prod.ext h3.1 h3.2
abbrev DVp := DataW Value
def RVp (v : Value) : Option (DataW Value × List MemPlace) := some (.held v, [])
def PlMap (w : World) (b n : Nat) (D : DVp) : Prop := w.ownsMap Tryd.prog 106 RVp b n D
/-- a map that has each place's number -/
structure Numb (D : DVp) (P : List Pl) : Prop where
  has : ∀ q, okQ q → Maps.has D (kyP q) = decide (q ∈ P)
  val : ∀ q, q ∈ P → ∀ z, D.atKey (kyP q) z = .held (.int .i64 ((P.idxOf q : Nat) : Int))
theorem Numb.nil : Numb (.map []) [] := ⟨fun q _ => by simp; rfl, fun q hq => by cases hq⟩
theorem Numb.add {D : DVp} {P : List Pl} (h : Numb D P) (ht : Maps.IsMap D) {q : Pl} (hP : ∀ p ∈ P, okQ p) (hq : okQ q) (hn : q ∉ P) : Numb (D.put (kyP q) (.held (.int .i64 ((P.length : Nat) : Int)))) (P ++ [q]) := by
  refine ⟨fun x hx => ?_, fun x hx z => ?_⟩
  · by_cases e : x = q
    · subst e; rw [Maps.has_put_same ht (kyP_key hq)]; simp
    · rw [Maps.has_put_other (fun e2 => e (kyP_inj hx hq e2)), h.has x hx]; simp [e]
  · rcases List.mem_append.1 hx with hx | hx
    · have e : x ≠ q := fun e => hn (e ▸ hx)
      rw [Maps.atKey_put_other (fun e2 => e (kyP_inj (hP x hx) hq e2)), h.val x hx, List.idxOf_append, if_pos hx]
    · rw [List.mem_singleton] at hx
      subst hx
      rw [Maps.atKey_put_same ht (kyP_key hq), List.idxOf_append, if_neg hn]
      simp
/-- the variables of webOf that its function shares -/
structure WebS (F : Nat) (w : World) (base gw gn bm : Nat) (vP vN : Value) (P : List Pl) (D : DVp) : Prop where
  var : w.heap[gw]? = some (.cells #[vP, vN] 88 (0, 0))
  box : BoxAt w gn 104 (.map (some bm))
  map : PlMap w bm P.length D
  numb : Numb D P
  row : w.ownsRow base 106 2 vP P.length (plC P)
  ok : ∀ p ∈ P, okQ p
  len : P.length ≤ F
  hgw : gw < base
  hgn : gn < base
  hbm : bm < base
  ne1 : gw ≠ gn
  ne2 : bm ≠ gw
  ne3 : bm ≠ gn
  le : base ≤ w.heap.size
theorem WebS.kept {F : Nat} {w w' : World} {base gw gn bm : Nat} {vP vN : Value} {P : List Pl} {D : DVp} (h : WebS F w base gw gn bm vP vN P D) (hb : Below w.heap.size w w') : WebS F w' base gw gn bm vP vN P D :=
  { h with
    var := (hb.block gw (Nat.lt_of_lt_of_le h.hgw h.le)).trans h.var
    box := h.box.kept hb
    map := World.ownsMap.kept h.map (row := none) ⟨hb.os, hb.tape, hb.output, hb.size, fun k hk _ => hb.block k hk⟩ (by simp)
    row := ownsRow_below h.row hb
    le := Nat.le_trans h.le hb.size }
theorem WebS.cells {F : Nat} {w : World} {base gw gn bm : Nat} {vP vN : Value} {P : List Pl} {D : DVp} (h : WebS F w base gw gn bm vP vN P D) : w.cell? ⟨gw, 0, none⟩ = some vP ∧ w.cell? ⟨gw, 1, none⟩ = some vN ∧ w.frozen? ⟨gw, 0, none⟩ = false ∧ w.frozen? ⟨gw, 1, none⟩ = false :=
  ⟨cell_of_row _ _ 0 _ _ _ h.var, cell_of_row _ _ 1 _ _ _ h.var, frozen_of_row _ _ 0 _ _ h.var, frozen_of_row _ _ 1 _ _ h.var⟩
/-- what has turned: nothing but the two variables' blocks and the row's own -/
structure NumT (gw bm : Nat) (vP vP' : Value) (w w' : World) : Prop where
  os : w'.os = w.os
  tape : w'.tape = w.tape
  output : w'.output = w.output
  size : w.heap.size ≤ w'.heap.size
  block : ∀ k, k < w.heap.size → k ≠ gw → k ≠ bm → vP.ownBlock ≠ some k → w'.heap[k]? = w.heap[k]?
  own : vP'.ownBlock = vP.ownBlock ∨ ∃ k, vP'.ownBlock = some k ∧ w.heap.size ≤ k
theorem NumT.refl (gw bm : Nat) (vP : Value) {w w' : World} (hb : Below w.heap.size w w') : NumT gw bm vP vP w w' := ⟨hb.os, hb.tape, hb.output, hb.size, fun k hk _ _ _ => hb.block k hk, .inl rfl⟩
theorem zero_intP (w : World) : (zeroValue 3).run Tryd.prog w = .ok (.int .i64 0) w := by kernel_rfl
theorem info_pl : (Tryd.prog.info? 106).map (fun i => (i.zero, i.size, i.bytes)) = some (some (.agg #[.int .i64 0, .int .i64 0]), 2, 16) := by kernel_rfl
/-- 'n, known := numbers[p]': what it gives is written out -/
theorem wpList_lookup_pl (w : World) {ops : Array Oper} {rest : List Oper} {o : Oper} {a : Act} {Q : Exit → Act → World → Prop} (hg : o.guard = none) (m x : Operand) (hop : o.op = Op.lookup 104 m x true)
    (b n : Nat) (D : DVp) (hm : a.eval m = .map (some b)) (hown : PlMap w b n D) (key : Value) (kl : Lit) (hx : a.eval x = key) (hkey : keyOf Tryd.prog 106 key = some kl)
    (u : Value) (hb : Bool) (hu : D.atKey kl (.held (.int .i64 0)) = .held u) (hh : Maps.has D kl = hb)
    (hK : wpList Tryd.prog ops Q rest (a.put o.dst (.tuple #[u, .bool hb])) w) : wpList Tryd.prog ops Q (o :: rest) a w :=
  wpList_lookup_own_ok w hg m x 104 hop 106 3 pl_law Tryd.underlying104 RVp (zero_intP w) (.held (.int .i64 0)) [] rfl b n D hm hown key kl hx hkey (fun v ps hv => by
    rw [hu] at hv
    unfold RVp at hv
    simp only [Option.some.injEq, Prod.mk.injEq, DataW.held.injEq] at hv
    rw [hv.1, hh]
    exact hK)
end Bw
end Go.Proofs.YtapjiopnjfldhaaDoor
