/- Readings by name; what package message's byName and fill answer, over any way of putting a signal. -/
import Derived.Test.YtlnkhlifkooohaaGreatDoorMsgMath
import Derived.Maps.OwnSet
import Derived.Test.YtlnkhlifkooohaaGreatDoorMgReadA
import Derived.Shelf.Abstract
import Derived.Deep.OwnRows
namespace Go.Proofs.YtlnkhlifkooohaaGreatDoor
open Go.ChangeShapes Go.WideShapes Go.ChangeAt Go.RowKit
namespace Bw
open Sm
abbrev DV := DataW Value
def kyL (nm : ByteArray) : Lit := .string nm.data.toList
theorem kyL_inj {a b : ByteArray} (h : kyL a = kyL b) : a = b := by
  unfold kyL at h
  have h1 : a.data.toList = b.data.toList := by injection h
  have h2 : a.data = b.data := Array.toList_inj.1 h1
  cases a; cases b; simp only at h2; rw [h2]
theorem kyL_ne {a b : ByteArray} (h : a ≠ b) : kyL a ≠ kyL b := fun e => h (kyL_inj e)
theorem kyL_key (a : ByteArray) : WideAt.IsKeyLit (kyL a) := trivial
def rdVal (r : Rd) : Value := .agg #[.string r.nm, .int .i64 r.num, .int .i64 r.den]
theorem rdVal_inj {a b : Rd} (h : rdVal a = rdVal b) : a = b := by
  unfold rdVal at h
  simp only [Value.agg.injEq] at h
  have h1 := congrArg Array.toList h
  simp only [List.cons.injEq, Value.string.injEq, Value.int.injEq, true_and, and_true] at h1
  obtain ⟨h2, h3, h4⟩ := h1
  cases a; cases b; simp only at h2 h3 h4; rw [h2, h3, h4]
def nR : Rd := ⟨⟨#[]⟩, 0, 0⟩
def rdAt (l : List Rd) (i : Nat) : Rd := l.getD i nR
theorem rdAt_append {l : List Rd} {r : Rd} {i : Nat} (h : i < l.length) : rdAt (l ++ [r]) i = rdAt l i := by
  unfold rdAt
  simp [List.getD, List.getElem?_append_left h]
theorem rdAt_last (l : List Rd) (r : Rd) : rdAt (l ++ [r]) l.length = r := by
  unfold rdAt
  simp [List.getD]
/-- no two have one name -/
def NoTwo (l : List Rd) : Prop := ∀ i j, i < j → j < l.length → (rdAt l i).nm ≠ (rdAt l j).nm
/-- a map that was filled from a list -/
structure Told (D : DV) (l : List Rd) : Prop where
  tidy : Maps.Tidy D
  has : ∀ nm, Maps.has D (kyL nm) = true ↔ ∃ i, i < l.length ∧ (rdAt l i).nm = nm
  val : ∀ i, i < l.length → (∀ j, i < j → j < l.length → (rdAt l i).nm ≠ (rdAt l j).nm) → ∀ z, D.atKey (kyL (rdAt l i).nm) z = .held (rdVal (rdAt l i))
  le : Maps.size D ≤ l.length
  eq : Maps.size D = l.length ↔ NoTwo l
theorem Told.nil : Told (.map []) [] :=
  ⟨Maps.tidy_empty, fun nm => ⟨fun h => (by cases h), fun ⟨i, hi, _⟩ => absurd hi (Nat.not_lt_zero _)⟩, fun i hi => absurd hi (Nat.not_lt_zero _), Nat.le_refl _, ⟨fun _ i j _ hj => absurd hj (Nat.not_lt_zero _), fun _ => rfl⟩⟩
theorem Told.snoc {D : DV} {l : List Rd} (h : Told D l) (r : Rd) : Told (D.put (kyL r.nm) (.held (rdVal r))) (l ++ [r]) := by
  have hL : (l ++ [r]).length = l.length + 1 := by simp
  have hm := h.tidy.isMap
  have hhas : ∀ nm, Maps.has (D.put (kyL r.nm) (.held (rdVal r))) (kyL nm) = true ↔ ∃ i, i < (l ++ [r]).length ∧ (rdAt (l ++ [r]) i).nm = nm := by
    intro nm
    by_cases e : nm = r.nm
    · subst e
      rw [Maps.has_put_same hm (kyL_key _)]
      exact ⟨fun _ => ⟨l.length, by omega, by rw [rdAt_last]⟩, fun _ => rfl⟩
    · rw [Maps.has_put_other (kyL_ne e), h.has]
      constructor
      · rintro ⟨i, hi, rfl⟩
        exact ⟨i, by omega, by rw [rdAt_append hi]⟩
      · rintro ⟨i, hi, he⟩
        by_cases e2 : i = l.length
        · subst e2; rw [rdAt_last] at he; exact absurd he.symm e
        · have hi' : i < l.length := by omega
          rw [rdAt_append hi'] at he
          exact ⟨i, hi', he⟩
  have hsz := Maps.size_put (k := kyL r.nm) h.tidy (DataW.held (rdVal r))
  refine ⟨h.tidy.put (kyL_key _) _, hhas, ?_, ?_, ?_⟩
  · intro i hi hno z
    by_cases e : i = l.length
    · subst e
      rw [rdAt_last]
      exact Maps.atKey_put_same hm (kyL_key _) _ _
    · have hi' : i < l.length := by omega
      have h1 := hno l.length (by omega) (by omega)
      rw [rdAt_last, rdAt_append hi'] at h1
      rw [rdAt_append hi', Maps.atKey_put_other (kyL_ne h1)]
      refine h.val i hi' (fun j hj hj2 => ?_) z
      have h2 := hno j hj (by omega)
      rw [rdAt_append hi', rdAt_append hj2] at h2
      exact h2
  · rw [hsz, hL]
    have := h.le
    split <;> omega
  · rw [hsz, hL]
    cases hq : Maps.has D (kyL r.nm) with
    | true =>
      simp only [if_true]
      obtain ⟨i, hi, he⟩ := (h.has r.nm).1 hq
      constructor
      · intro e; have := h.le; omega
      · intro hn
        have := hn i l.length hi (by omega)
        rw [rdAt_append hi, rdAt_last] at this
        exact absurd he this
    | false =>
      simp only [Bool.false_eq_true, if_false]
      constructor
      · intro e
        have hn := h.eq.1 (by omega)
        intro i j hij hj
        by_cases e2 : j = l.length
        · subst e2
          rw [rdAt_append hij, rdAt_last]
          intro e3
          rw [(h.has r.nm).2 ⟨i, hij, e3⟩] at hq
          cases hq
        · have hj' : j < l.length := by omega
          rw [rdAt_append (by omega), rdAt_append hj']
          exact hn i j hij hj'
      · intro hn
        have : NoTwo l := fun i j hij hj => by
          have := hn i j hij (by omega)
          rw [rdAt_append (by omega), rdAt_append hj] at this
          exact this
        have := h.eq.2 this
        omega
/-- which is the first of a name -/
def findR (l : List Rd) (nm : ByteArray) : Option Rd := l.find? (fun r => decide (r.nm = nm))
theorem findR_some {l : List Rd} {nm : ByteArray} {r : Rd} (h : findR l nm = some r) : ∃ i, i < l.length ∧ rdAt l i = r ∧ r.nm = nm := by
  unfold findR at h
  have h1 := List.mem_of_find?_eq_some h
  have h2 := List.find?_some h
  obtain ⟨i, hi, rfl⟩ := List.getElem_of_mem h1
  exact ⟨i, hi, by unfold rdAt; simp [List.getD, hi], by simpa using h2⟩
theorem findR_none {l : List Rd} {nm : ByteArray} (h : findR l nm = none) : ∀ i, i < l.length → (rdAt l i).nm ≠ nm := by
  unfold findR at h
  intro i hi
  have := List.find?_eq_none.1 h l[i] (List.getElem_mem hi)
  unfold rdAt
  simpa [List.getD, hi] using this
/-- a map from which some names are taken out again -/
structure Left (D : DV) (l : List Rd) (used : List ByteArray) : Prop where
  tidy : Maps.Tidy D
  none : ∀ nm, findR l nm = none → Maps.has D (kyL nm) = false
  some : ∀ nm r, findR l nm = .some r → nm ∉ used → Maps.has D (kyL nm) = true ∧ ∀ z, D.atKey (kyL nm) z = .held (rdVal r)
  size : Maps.size D + used.length = l.length
theorem Told.left {D : DV} {l : List Rd} (h : Told D l) (hn : NoTwo l) : Left D l [] := by
  refine ⟨h.tidy, fun nm hf => ?_, fun nm r hf _ => ?_, by simpa using h.eq.2 hn⟩
  · cases hq : Maps.has D (kyL nm) with
    | false => rfl
    | true =>
      obtain ⟨i, hi, he⟩ := (h.has nm).1 hq
      exact absurd he (findR_none hf i hi)
  · obtain ⟨i, hi, e1, e2⟩ := findR_some hf
    subst e2
    refine ⟨(h.has _).2 ⟨i, hi, by rw [e1]⟩, fun z => ?_⟩
    have := h.val i hi (fun j hj hj2 => hn i j hj hj2) z
    rw [e1] at this
    exact this
theorem Left.take {D : DV} {l : List Rd} {used : List ByteArray} (h : Left D l used) {nm : ByteArray} {r : Rd} (hf : findR l nm = .some r) (hu : nm ∉ used) : Left (D.del (kyL nm)) l (used ++ [nm]) := by
  refine ⟨h.tidy.del _, fun x hx => ?_, fun x y hx hy => ?_, ?_⟩
  · have : x ≠ nm := fun e => by subst e; rw [hx] at hf; cases hf
    rw [Maps.has_del_other (kyL_ne this)]
    exact h.none x hx
  · have h1 : x ∉ used := fun e => hy (List.mem_append_left _ e)
    have h2 : x ≠ nm := fun e => hy (by rw [e]; simp)
    rw [Maps.has_del_other (kyL_ne h2)]
    refine ⟨(h.some x y hx h1).1, fun z => ?_⟩
    rw [Maps.atKey_del_other (kyL_ne h2)]
    exact (h.some x y hx h1).2 z
  · have h1 := Maps.size_del (k := kyL nm) h.tidy
    rw [if_pos (h.some nm r hf hu).1] at h1
    have h2 := h.size
    simp only [List.length_append, List.length_cons, List.length_nil]
    omega
end Bw
end Go.Proofs.YtlnkhlifkooohaaGreatDoor
namespace Go.Proofs.YtlnkhlifkooohaaGreatDoor
open Go.ChangeShapes Go.WideShapes Go.ChangeAt Go.RowKit
namespace Bw
open Sm
/-- how an element of the map reads: as itself -/
def RV (v : Value) : Option (DataW Value × List MemPlace) := some (.held v, [])
/-- block b is a map of readings -/
def MapIs (w : World) (b n : Nat) (D : DV) : Prop := w.ownsMap Tryz.prog 9 RV b n D
theorem str_law : Maps.Keyed Tryz.prog 9 := Maps.string_keyed Tryz.underlying9
theorem key_is {s : ByteArray} (h : s.size ≤ maxLen) : keyOf Tryz.prog 9 (.string s) = some (kyL s) := WideMaps.keyOf_string_mk Tryz.underlying9 h
theorem zero_rd (w : World) : (zeroValue 44).run Tryz.prog w = .ok (.agg #[.string ⟨#[]⟩, .int .i64 0, .int .i64 0]) w := by kernel_rfl
theorem MapIs.kept {w w' : World} {b n : Nat} {D : DV} (h : MapIs w b n D) (hb : Below w.heap.size w w') : MapIs w' b n D :=
  World.ownsMap.kept h (row := none) ⟨hb.os, hb.tape, hb.output, hb.size, fun k hk _ => hb.block k hk⟩ (by simp)
/-- a row of readings of one's own is a row -/
theorem rdsC_len : ∀ l : List Rd, (rdsC l).length = l.length * 3
  | [] => rfl
  | x :: l => by rw [show x :: l = [x] ++ l from rfl, rdsC_append, List.length_append, rdsC_len l, rdsC_one]; simp; omega
theorem rdsC_cons (x : Rd) (l : List Rd) : rdsC (x :: l) = rdCl x ++ rdsC l := by simp [rdsC]
theorem rdsC_at : ∀ (l : List Rd) (i : Nat) (hi : i < l.length) (k : Nat), k < 3 → (rdsC l)[i * 3 + k]? = (rdCl l[i])[k]?
  | [], i, hi, _, _ => absurd hi (Nat.not_lt_zero _)
  | x :: l, 0, _, k, hk => by
    rw [rdsC_cons, List.getElem?_append_left (by simp [rdCl]; omega)]
    simp
  | x :: l, i + 1, hi, k, hk => by
    have := rdsC_at l i (by simpa using hi) k hk
    rw [rdsC_cons, List.getElem?_append_right (by simp [rdCl]; omega)]
    rw [show (i + 1) * 3 + k - (rdCl x).length = i * 3 + k by simp [rdCl]; omega, this]
    simp
theorem rds_own {w : World} {base : Nat} {u : Value} {l : List Rd} (h : w.ownsRow base 44 3 u l.length (rdsC l)) : ∃ a c, u = .slice a l.length c ∧ IsRds w a l.length c l := by
  have h0 := h
  obtain ⟨hl, h2⟩ := h
  rcases h2 with ⟨h3, h4⟩ | ⟨g', cap, cur, hv, hg, hh, hc, hm, hsz, htk⟩
  · refine ⟨none, 0, ?_, ?_⟩
    · rw [h3, h4]
    · exact ⟨rfl, by omega, Nat.zero_le _, fun _ => h4, fun _ e => by cases e⟩
  · refine ⟨some ⟨g', 0, none⟩, cap, hv, rfl, hc, hm, (fun e => by cases e), fun x hx i hi k hk => ?_⟩
    cases hx
    have h5 : i * 3 + k < (rdsC l).length := by rw [rdsC_len]; omega
    have h6 := rdsC_at l i hi k hk
    rw [← h6, List.getElem?_eq_getElem h5]
    subst hv
    exact h0.cells rfl _ _ (List.getElem?_eq_getElem h5)
set_option maxHeartbeats 8000000 in
set_option maxRecDepth 100000 in
theorem byName_any (a : Option Addr) (n c : Nat) (l : List Rd) (w : World) (hF : IsRds w a n c l) (hn : ∀ r ∈ l, r.nm.size ≤ maxLen) :
    Calls Tryz.prog 28 #[.slice a n c] w fun e w' => e = .returned (.map (some w.heap.size)) ∧ (∃ D, MapIs w' w.heap.size n D ∧ Told D l) ∧ Below w.heap.size w w' := by
  have hmm := @run_makeMap Tryz.prog
  have hlen := hF.len
  have hnm : n ≤ maxLen := Nat.le_trans hF.le hF.max
  have hn63 : (n : Int) ≤ 9223372036854775807 := by unfold maxLen at hnm; omega
  have HF := Hid.mk hF
  have HN : Hid (∀ k, k < n → (l.getD k noR).nm.size ≤ maxLen) := Hid.mk (fun k hk => hn _ (by
    rw [getD_at (by omega)]
    exact List.getElem_mem _))
  have HT : Hid (∀ k, k < n → l.take (k + 1) = l.take k ++ [l.getD k noR]) := Hid.mk (fun k hk => by
    rw [List.take_succ_eq_append_getElem (by omega), getD_at (by omega)])
  have HTA : Hid (l.take n = l) := Hid.mk (by rw [← hlen]; exact List.take_length)
  have HNM := Hid.mk hnm
  clear hF hn hlen hnm
  go_enter Tryz.func28, Tryz.ntmps28
  go_wp2_with fail
  go_loopw [9] (fun i wr => ∃ k : Nat, k ≤ n ∧ i = .int .i64 k ∧ Hid (∃ D, MapIs wr w.heap.size k D ∧ Told D (l.take k)) ∧ Hid (Below w.heap.size w wr)) (fun i _ => n - (intOf i).toNat)
  case atStart => exact ⟨0, Nat.zero_le _, rfl, Hid.mk ⟨_, World.ownsMap_made _ _ _ _, Told.nil⟩, Hid.mk ((Below.refl _ _).alloc (Nat.le_refl _) _)⟩
  case round =>
    obtain ⟨k, hk, rfl, HM, HB⟩ := hrel
    by_cases hlt : k < n
    · have hlt' : (k : Int) < (n : Int) := by omega
      obtain ⟨x, hx⟩ := HF.out.some hlt
      subst hx
      obtain ⟨c0, c1, c2⟩ := (HF.out.kept HB.out).at hlt
      have HTk := Hid.mk (HT.out k hlt)
      have HNk := Hid.mk (HN.out k hlt)
      obtain ⟨D, hD, hTold⟩ := HM.out
      generalize l.getD k noR = r at *
      obtain ⟨nm, num, den⟩ := r
      simp only at c0 c1 c2 HTk HNk
      have HAL := Hid.mk (awB1 wr (.cells #[.string nm, .int .i64 num, .int .i64 den] 44))
      have HD := Hid.mk (hD.kept HAL.out)
      have HTO := Hid.mk (hTold.snoc ⟨nm, num, den⟩)
      have HKM : Hid (k < maxLen) := Hid.mk (Nat.lt_of_lt_of_le hlt HNM.out)
      clear hD hTold HM
      go_wp2_with (at_mapUpdate; refine wpList_mapUpdate_own _ rfl _ _ _ 61 rfl 9 44 str_law Tryz.underlying61 RV w.heap.size k D rfl HD.out HKM.out _ _ (kyL nm) rfl rfl (key_is HNk.out) _ [] rfl ?_; intro w1 hown1 hgrow1; have HO1 := Hid.mk hown1; have HG1 := Hid.mk hgrow1; clear hown1 hgrow1)
      go_roundw
      case rel =>
        refine ⟨k + 1, by omega, by go_num, Hid.mk ⟨_, HO1.out, by rw [HTk.out]; exact HTO.out⟩, Hid.mk ?_⟩
        exact (bl2 HB.out HAL.out).grown HG1.out (bl2 HB.out HAL.out).size (fun j hj => by cases hj; exact Nat.le_refl _)
      case measure => simp [intOf]; omega
    · have e : k = n := by omega
      subst e
      go_wp2_with fail
      go_ret
      refine ⟨rfl, ?_, HB.out⟩
      have := HM.out
      rw [HTA.out] at this
      exact this
end Bw
end Go.Proofs.YtlnkhlifkooohaaGreatDoor
namespace Go.Proofs.YtlnkhlifkooohaaGreatDoor
open Go.ChangeShapes Go.WideShapes Go.ChangeAt Go.RowKit
namespace Bw
open Sm
/-- every cell stands -/
def CK (w w' : World) : Prop := ∀ a v, w.cell? a = some v → w'.cell? a = some v
theorem CK.refl (w : World) : CK w w := fun _ _ h => h
theorem CK.trans {a b c : World} (h : CK a b) (h' : CK b c) : CK a c := fun x v hx => h' x v (h x v hx)
theorem CK.below {w w' : World} (h : Below w.heap.size w w') : CK w w' := fun _ _ hx => cell_kept h hx
theorem SgAt.keptC {w w' : World} {g : Nat} {s : Sig} (h : SgAt w g s) (hb : CK w w') : SgAt w' g s :=
  ⟨hb _ _ h.c0, hb _ _ h.c1, hb _ _ h.c2, hb _ _ h.c3, hb _ _ h.c4, hb _ _ h.c5, hb _ _ h.c6, hb _ _ h.c7, hb _ _ h.c8⟩
theorem MsAt.keptC {w w' : World} {g : Nat} {v : MsV} (h : MsAt w g v) (hb : CK w w') : MsAt w' g v :=
  ⟨hb _ _ h.c0, hb _ _ h.c1, hb _ _ h.c2, hb _ _ h.c3, hb _ _ h.c4, hb _ _ h.c5⟩
theorem IsSigs.keptC {w w' : World} {a : Option Addr} {n cap : Nat} {l : List Sig} (h : IsSigs w a n cap l) (hb : CK w w') : IsSigs w' a n cap l :=
  ⟨h.len, h.le, h.max, h.none, fun x hx i hi k hk => by
    have h1 := h.cell x hx i hi k hk
    have h2 : k < (sgCl l[i]).length := hk
    rw [List.getElem?_eq_getElem h2] at h1 ⊢
    exact hb _ _ h1⟩
theorem IsRds.keptC {w w' : World} {a : Option Addr} {n cap : Nat} {l : List Rd} (h : IsRds w a n cap l) (hb : CK w w') : IsRds w' a n cap l :=
  ⟨h.len, h.le, h.max, h.none, fun x hx i hi k hk => by
    have h1 := h.cell x hx i hi k hk
    have h2 : k < (rdCl l[i]).length := hk
    rw [List.getElem?_eq_getElem h2] at h1 ⊢
    exact hb _ _ h1⟩
theorem MsIn.keptC {w w' : World} {v : MsV} (h : MsIn w v) (hb : CK w w') : MsIn w' v := ⟨h.nm, h.row.keptC hb, h.wf⟩
theorem bytesC {w w' : World} {a : Option Addr} {len cap : Nat} {l : List UInt8} (h : IsBytes w a len cap l) (hb : CK w w') : IsBytes w' a len cap l :=
  ⟨h.1, h.2.1, h.2.2.1, h.2.2.2.1, fun x hx i hi => hb _ _ (h.2.2.2.2 x hx i hi)⟩
/-- nothing but the map in block bm has turned -/
structure GM (bm : Nat) (w w' : World) : Prop where
  grown : w.grownBy w' (some bm)
  map : ∃ es cl, w.heap[bm]? = some (.map es cl)
theorem GM.ck {bm : Nat} {w w' : World} (h : GM bm w w') : CK w w' := fun a v hv => h.grown.cell hv (fun e => by
  obtain ⟨es, cl, hm⟩ := h.map
  have e1 : a.block = bm := by simpa using e
  subst e1
  simp [World.cell?, hm] at hv)
theorem GM.trans {bm : Nat} {a b c : World} (h : GM bm a b) (h' : GM bm b c) : GM bm a c :=
  ⟨⟨h'.grown.os.trans h.grown.os, h'.grown.tape.trans h.grown.tape, h'.grown.output.trans h.grown.output, Nat.le_trans h.grown.size h'.grown.size, fun k hk hne => (h'.grown.block k (Nat.lt_of_lt_of_le hk h.grown.size) hne).trans (h.grown.block k hk hne)⟩, h.map⟩
theorem GM.below {bm : Nat} {w w' : World} (hm : ∃ es cl, w.heap[bm]? = some (.map es cl)) (h : Below w.heap.size w w') : GM bm w w' :=
  ⟨⟨h.os, h.tape, h.output, h.size, fun k hk _ => h.block k hk⟩, hm⟩
theorem MapIs.map {w : World} {b n : Nat} {D : DV} (h : MapIs w b n D) : ∃ es cl, w.heap[b]? = some (.map es cl) := by
  obtain ⟨es, cl, hb, _⟩ := h
  exact ⟨es, cl, hb⟩
theorem MapIs.mapB {w w' : World} {b n : Nat} {D : DV} (h : MapIs w b n D) (hb : Below w.heap.size w w') : ∃ es cl, w'.heap[b]? = some (.map es cl) := (h.kept hb).map
/-- 'r, ok := m[k]' of a map of readings: what it gives is written out -/
theorem wpList_lookup_rd (w : World) {ops : Array Oper} {rest : List Oper} {o : Oper} {a : Act} {Q : Exit → Act → World → Prop} (hg : o.guard = none) (m x : Operand) (hop : o.op = Op.lookup 61 m x true)
    (b n : Nat) (D : DV) (hm : a.eval m = .map (some b)) (hown : MapIs w b n D) (key : Value) (kl : Lit) (hx : a.eval x = key) (hkey : keyOf Tryz.prog 9 key = some kl)
    (u : Value) (hb : Bool) (hu : D.atKey kl (.held (.agg #[.string ⟨#[]⟩, .int .i64 0, .int .i64 0])) = .held u) (hh : Maps.has D kl = hb)
    (hK : wpList Tryz.prog ops Q rest (a.put o.dst (.tuple #[u, .bool hb])) w) : wpList Tryz.prog ops Q (o :: rest) a w :=
  wpList_lookup_own_ok w hg m x 61 hop 9 44 str_law Tryz.underlying61 RV (zero_rd w) (.held (.agg #[.string ⟨#[]⟩, .int .i64 0, .int .i64 0])) [] rfl b n D hm hown key kl hx hkey (fun v ps hv => by
    rw [hu] at hv
    unfold RV at hv
    simp only [Option.some.injEq, Prod.mk.injEq, DataW.held.injEq] at hv
    rw [hv.1, hh]
    exact hK)
def wrD (s : Sig) (d : List UInt8) (num den : Int) : List UInt8 := wrS s s.st.toNat s.sz.toNat d (rawV s num den)
def rwE (s : Sig) (num den : Int) : Int := rawE s s.sz.toNat num den
theorem wrD_len (s : Sig) (d : List UInt8) (num den : Int) : (wrD s d num den).length = d.length := wrK_length _ _ _ _
theorem isBytes_ownM {w : World} {base g n c : Nat} {l : List UInt8} (h : w.ownsRow base 5 1 (.slice (some ⟨g, 0, none⟩) n c) n (cellsOf l)) : IsBytes w (some ⟨g, 0, none⟩) n c l := by
  have h0 := h
  obtain ⟨hl, h2⟩ := h
  have hn : l.length = n := by simpa [cellsOf] using hl
  rcases h2 with ⟨h3, _⟩ | ⟨g', cap, cur, hv, hg, hh, hc, hm, hsz, htk⟩
  · cases h3
  · cases hv
    refine ⟨hn, hc, hm, (fun h => by cases h), fun x hx i hi => ?_⟩
    cases hx
    exact h0.cells rfl i _ (by simp [cellsOf, hn, hi])
/-- signal.Write of a right signal -/
theorem swrite_is (s : Sig) (a : Option Addr) (len cap : Nat) (l : List UInt8) (num den : Int) (w : World) (h : wfS s) (hD : IsBytes w a len cap l) (hE : chkS s len = 0) :
    Calls Tryz.prog 31 #[sgV s, .slice a len cap, .int .i64 num, .int .i64 den] w fun e w' => Below w.heap.size w w' ∧
      ((rwE s num den ≠ 0 ∧ e = .returned (.tuple #[.slice none 0 0, .int .i64 (rwE s num den)])) ∨
       (rwE s num den = 0 ∧ ∃ a' c, e = .returned (.tuple #[.slice a' len c, .int .i64 0]) ∧ IsBytes w' a' len c (wrD s l num den))) := by
  obtain ⟨st, sz, hR⟩ := right_of hE
  have e1 : rwE s num den = rawE s sz num den := by unfold rwE; rw [hR.hsz, Int.toNat_natCast]
  have e2 : wrD s l num den = wrS s st sz l (rawV s num den) := by unfold wrD; rw [hR.hst, hR.hsz, Int.toNat_natCast, Int.toNat_natCast]
  rw [e1, e2]
  by_cases hX : rawE s sz num den = 0
  · refine (swrite_ok s st sz a len cap l num den w h hD hE hR hX).mono ?_
    rintro e w' ⟨g, c, h1, h2, h3⟩
    exact ⟨h3, .inr ⟨hX, _, c, h1, isBytes_ownM h2⟩⟩
  · refine (swrite_raw s st sz a len cap num den w h hE hR hX).mono ?_
    rintro e w' ⟨h1, h2⟩
    exact ⟨h2, .inl ⟨hX, h1⟩⟩
/-- what Write's own way of putting a signal does -/
def putW (l : List Rd) (s : Sig) (d : List UInt8) : Int × List UInt8 :=
  match findR l s.nm with
  | none => (14, [])
  | some r => if rwE s r.num r.den = 0 then (0, wrD s d r.num r.den) else (rwE s r.num r.den, [])
/-- the variable told holds the map, from which the names 'used' are taken out -/
def WrI (l : List Rd) (g bm : Nat) (w : World) (used : List ByteArray) : Prop := w.cell? ⟨g, 0, none⟩ = some (.map (some bm)) ∧ ∃ n D, MapIs w bm n D ∧ Left D l used
theorem WrI.kept {l : List Rd} {g bm : Nat} {w w' : World} {used : List ByteArray} (h : WrI l g bm w used) (hb : Below w.heap.size w w') : WrI l g bm w' used := by
  obtain ⟨h1, n, D, h2, h3⟩ := h
  exact ⟨cell_kept hb h1, n, D, h2.kept hb, h3⟩
theorem put_box (w : World) (s : Sig) (nm : ByteArray) (n d : Int) : Below w.heap.size w ((w.alloc (sgC s)).alloc (.cells #[.string nm, .int .i64 n, .int .i64 d] 44)) := ((Below.refl _ _).alloc (Nat.le_refl _) _).alloc (by simp) _
theorem put_rd (w : World) (s : Sig) (nm : ByteArray) (n d : Int) : ((w.alloc (sgC s)).alloc (.cells #[.string nm, .int .i64 n, .int .i64 d] 44)).cell? ⟨w.heap.size + 1, 1, none⟩ = some (.int .i64 n) ∧ ((w.alloc (sgC s)).alloc (.cells #[.string nm, .int .i64 n, .int .i64 d] 44)).cell? ⟨w.heap.size + 1, 2, none⟩ = some (.int .i64 d) := by
  have h := rd_cells (w.alloc (sgC s)) nm n d
  rw [show (w.alloc (sgC s)).heap.size = w.heap.size + 1 by simp] at h
  exact ⟨h.2.1, h.2.2⟩
/-- what a way of putting a signal answers -/
def PutP (p : Int × List UInt8) (Iv : World → Prop) (bm len : Nat) (w : World) (e : Ending) (w' : World) : Prop :=
  Hid (GM bm w w') ∧ ((∃ u, e = .returned (.tuple #[u, .int .i64 p.1]) ∧ (p.1 != 0) = true) ∨ (∃ a' c, e = .returned (.tuple #[.slice a' len c, .int .i64 0]) ∧ Hid (p.1 = 0 ∧ IsBytes w' a' len c p.2 ∧ Iv w')))
set_option maxHeartbeats 8000000 in
set_option maxRecDepth 100000 in
theorem putW_any (l : List Rd) (s : Sig) (g bm : Nat) (used : List ByteArray) (a : Option Addr) (len cap : Nat) (d : List UInt8) (w : World) (hI : WrI l g bm w used) (h : wfS s) (hnm : s.nm.size ≤ maxLen) (hu : s.nm ∉ used) (hD : IsBytes w a len cap d) (hE : chkS s len = 0) :
    Calls Tryz.prog 30 #[sgV s, .slice a len cap, .pointer (some ⟨g, 0, none⟩)] w fun e w' => PutP (putW l s d) (fun w' => WrI l g bm w' (used ++ [s.nm])) bm len w e w' := by
  obtain ⟨hg, n, D, hM, hL⟩ := hI
  have HBX := Hid.mk (sg_box w s)
  have HSA := Hid.mk (SgAt.box w s)
  have hg1 := cell_kept HBX.out hg
  have HM1 := Hid.mk (hM.kept HBX.out)
  have HMB := Hid.mk hM.map
  have HKEY := Hid.mk (key_is hnm)
  have HG := Hid.mk hg
  cases hf : findR l s.nm with
  | none =>
    have hp : putW l s d = (14, []) := by unfold putW; rw [hf]
    rw [hp]
    have HH := Hid.mk (hL.none s.nm hf)
    have HU := Hid.mk (Maps.atKey_of_not_has (hL.none s.nm hf) (DataW.held (.agg #[.string ⟨#[]⟩, .int .i64 0, .int .i64 0] : Value)))
    have HB2 := Hid.mk (put_box w s ⟨#[]⟩ 0 0)
    clear hp hg hM hL h hnm hu hD hE hf
    obtain ⟨nm, st, sz, bk, sg, mu, di, ad, ky⟩ := s
    unfold sgC at HBX HSA hg1 HM1 HB2
    unfold sgV
    simp only at HBX HSA hg1 HM1 HB2 HKEY HH HU ⊢
    go_enter Tryz.func30, Tryz.ntmps30
    go_wp2_with (at_lookup; refine wpList_lookup_rd _ rfl _ _ rfl bm n D rfl HM1.out _ _ rfl HKEY.out _ _ HU.out HH.out ?_)
    go_ret2
    exact ⟨Hid.mk (GM.below HMB.out HB2.out), .inl ⟨_, rfl, by decide⟩⟩
  | some r =>
    have hhas := hL.some s.nm r hf hu
    have hT := hL.take hf hu
    have hp : putW l s d = if rwE s r.num r.den = 0 then (0, wrD s d r.num r.den) else (rwE s r.num r.den, []) := by unfold putW; rw [hf]
    have HP := Hid.mk hp
    have HH := Hid.mk hhas.1
    have HU := Hid.mk (hhas.2 (DataW.held (.agg #[.string ⟨#[]⟩, .int .i64 0, .int .i64 0] : Value)))
    have HB2 := Hid.mk (put_box w s r.nm r.num r.den)
    have HRC := Hid.mk (put_rd w s r.nm r.num r.den)
    have HM2 := Hid.mk (hM.kept HB2.out)
    have hg2 := cell_kept HB2.out hg
    have HSA2 := Hid.mk (HSA.out.kept (awB1 _ (.cells #[.string r.nm, .int .i64 r.num, .int .i64 r.den] 44)))
    have HT := Hid.mk hT
    have HDD := Hid.mk (bytesC hD (CK.below HB2.out))
    have HW := Hid.mk (fun W (hb : IsBytes W a len cap d) => swrite_is s a len cap d r.num r.den W h hb hE)
    clear hp hg hM hL h hnm hu hD hE hf hhas hT
    generalize putW l s d = PW at *
    generalize rwE s r.num r.den = RE at *
    generalize wrD s d r.num r.den = WD at *
    obtain ⟨nm, st, sz, bk, sg, mu, di, ad, ky⟩ := s
    obtain ⟨rnm, rnum, rden⟩ := r
    unfold rdVal at HU
    unfold sgC at HBX HSA hg1 HM1 HB2 HRC HM2 hg2 HSA2 HDD
    unfold sgV at HW ⊢
    simp only at HBX HSA hg1 HM1 HB2 HKEY HH HU HRC HM2 hg2 HSA2 HDD HT HW ⊢
    go_enter Tryz.func30, Tryz.ntmps30
    go_wp2_with (first | (at_lookup; refine wpList_lookup_rd _ rfl _ _ rfl bm n D rfl HM1.out _ _ rfl HKEY.out _ _ HU.out HH.out ?_) | (at_delete; refine wpList_delete_own _ rfl _ _ 61 9 rfl 44 str_law Tryz.underlying61 RV bm n D rfl HM2.out _ _ rfl HKEY.out ?_; intro w1 hown1 hturn1; have HO1 := Hid.mk hown1; have HG1 := Hid.mk (show GM bm _ w1 from ⟨hturn1.grown, HM2.out.map⟩); obtain ⟨s0, s1, s2, s3, s4, s5, s6, s7, s8⟩ := HSA2.out.keptC HG1.out.ck; have r1 := HG1.out.ck _ _ HRC.out.1; have r2 := HG1.out.ck _ _ HRC.out.2; have HGG := Hid.mk (HG1.out.ck _ _ hg2); have HD1 := Hid.mk (bytesC HDD.out HG1.out.ck); clear hown1 hturn1; simp only at s0 s1 s2 s3 s4 s5 s6 s7 s8))
    refine (HW.out _ HD1.out).mono ?_
    rintro e w2 ⟨hb2, hcase⟩
    have HGM := Hid.mk ((GM.below HMB.out HB2.out).trans (HG1.out.trans (GM.below (MapIs.map HO1.out) hb2)))
    rcases hcase with ⟨hne, rfl⟩ | ⟨hz, a', c, rfl, hB'⟩
    · have HNE := Hid.mk hne
      clear hne hb2
      go_wp2_with fail
      go_ret2
      refine ⟨HGM, .inl ?_⟩
      rw [HP.out, if_neg HNE.out]
      exact ⟨_, rfl, by simpa using HNE.out⟩
    · have HZ := Hid.mk hz
      have HB' := Hid.mk hB'
      have HWI : Hid (WrI l g bm w2 (used ++ [nm])) := Hid.mk ⟨cell_kept hb2 HGG.out, n, _, MapIs.kept HO1.out hb2, HT.out⟩
      clear hz hb2 hB'
      go_wp2_with fail
      go_ret2
      refine ⟨HGM, .inr ?_⟩
      rw [HP.out, if_pos HZ.out]
      exact ⟨_, _, rfl, Hid.mk ⟨rfl, HB'.out, HWI.out⟩⟩
end Bw
end Go.Proofs.YtlnkhlifkooohaaGreatDoor
namespace Go.Proofs.YtlnkhlifkooohaaGreatDoor
open Go.ChangeShapes Go.WideShapes Go.ChangeAt Go.RowKit
namespace Bw
open Sm
abbrev PutF := Sig → List UInt8 → Int × List UInt8
def goE (put : PutF) : List Sig → List UInt8 → Int × List UInt8
  | [], d => (0, d)
  | s :: r, d => if (put s d).1 = 0 then goE put r (put s d).2 else ((put s d).1, [])
theorem goE_snoc {put : PutF} {s : Sig} : ∀ {l : List Sig} {d d' : List UInt8}, goE put l d = (0, d') → (put s d').1 = 0 → goE put (l ++ [s]) d = (0, (put s d').2)
  | [], d, d', h, hs => by
    have e : d = d' := by simpa [goE] using h
    subst e
    show goE put [s] d = _
    simp only [goE, if_pos hs]
  | x :: r, d, d', h, hs => by
    by_cases hx : (put x d).1 = 0
    · simp only [goE, if_pos hx] at h
      rw [List.cons_append]
      simp only [goE, if_pos hx]
      exact goE_snoc h hs
    · simp only [goE, if_neg hx] at h
      exact absurd (congrArg Prod.fst h) hx
theorem goE_fail {put : PutF} {s : Sig} {t : List Sig} : ∀ {l : List Sig} {d d' : List UInt8}, goE put l d = (0, d') → (put s d').1 ≠ 0 → goE put (l ++ s :: t) d = ((put s d').1, [])
  | [], d, d', h, hs => by
    have e : d = d' := by simpa [goE] using h
    subst e
    show goE put (s :: t) d = _
    simp only [goE, if_neg hs]
  | x :: r, d, d', h, hs => by
    by_cases hx : (put x d).1 = 0
    · simp only [goE, if_pos hx] at h
      rw [List.cons_append]
      simp only [goE, if_pos hx]
      exact goE_fail h hs
    · simp only [goE, if_neg hx] at h
      exact absurd (congrArg Prod.fst h) hx
/-- the other signals that are there, of the first k -/
def othB (m : Msg) (c : Int) (i : Nat) : Bool := !((i : Int) == m.ch) && thB c (m.at i)
def othK (m : Msg) (c : Int) (k : Nat) : List Sig := ((List.range k).filter (othB m c)).map m.at
theorem othK_yes (m : Msg) (c : Int) {k : Nat} (h : othB m c k = true) : othK m c (k + 1) = othK m c k ++ [m.at k] := by
  unfold othK
  rw [List.range_succ, List.filter_append, List.map_append]
  simp [h]
theorem othK_no (m : Msg) (c : Int) {k : Nat} (h : othB m c k = false) : othK m c (k + 1) = othK m c k := by
  unfold othK
  rw [List.range_succ, List.filter_append, List.map_append]
  simp [h]
theorem othK_more (m : Msg) (c : Int) {k : Nat} (h : othB m c k = true) : ∀ {n : Nat}, k < n → ∃ t, othK m c n = othK m c k ++ m.at k :: t
  | 0, hn => absurd hn (Nat.not_lt_zero _)
  | n + 1, hn => by
    by_cases e : n = k
    · subst e; exact ⟨[], othK_yes m c h⟩
    · obtain ⟨t, ht⟩ := othK_more m c h (n := n) (by omega)
      cases hb : othB m c n with
      | true => exact ⟨t ++ [m.at n], by rw [othK_yes m c hb, ht]; simp⟩
      | false => exact ⟨t, by rw [othK_no m c hb, ht]⟩
def zerosM (m : Msg) : List UInt8 := List.replicate m.size.toNat 0
/-- the bytes ahead of the other signals, and the error -/
def chooE (put : PutF) (m : Msg) : Int × List UInt8 := if 0 ≤ m.ch then put (m.at m.ch.toNat) (zerosM m) else (0, zerosM m)
def fillE (put : PutF) (m : Msg) : Int × List UInt8 :=
  if (chooE put m).1 = 0 then goE put (othK m (choD m (chooE put m).2) m.sigs.length) (chooE put m).2 else ((chooE put m).1, [])
def usedL (put : PutF) (m : Msg) : List ByteArray := (if 0 ≤ m.ch then [(m.at m.ch.toNat).nm] else []) ++ (othK m (choD m (chooE put m).2) m.sigs.length).map Sig.nm
/-- which names are used -/
def UsK (S : Nat → Sig) (mch : Int) (mn k : Nat) (us : List ByteArray) : Prop := ∀ x ∈ us, ∃ j, (j < k ∨ (j : Int) = mch) ∧ j < mn ∧ x = (S j).nm
theorem UsK.start {S : Nat → Sig} {mch : Int} {mn : Nat} {us : List ByteArray} (h : ∀ x ∈ us, ∃ j : Nat, (j : Int) = mch ∧ j < mn ∧ x = (S j).nm) : UsK S mch mn 0 us := fun x hx => by
  obtain ⟨j, h1, h2, h3⟩ := h x hx
  exact ⟨j, .inr h1, h2, h3⟩
theorem UsK.next {S : Nat → Sig} {mch : Int} {mn k : Nat} {us : List ByteArray} (h : UsK S mch mn k us) : UsK S mch mn (k + 1) us := fun x hx => by
  obtain ⟨j, h1, h2, h3⟩ := h x hx
  exact ⟨j, by omega, h2, h3⟩
theorem UsK.snoc {S : Nat → Sig} {mch : Int} {mn k : Nat} {us : List ByteArray} (h : UsK S mch mn k us) (hk : k < mn) : UsK S mch mn (k + 1) (us ++ [(S k).nm]) := fun x hx => by
  rw [List.mem_append] at hx
  rcases hx with hx | hx
  · exact h.next x hx
  · exact ⟨k, .inl (by omega), hk, by simpa using hx⟩
theorem UsK.free {S : Nat → Sig} {mch : Int} {mn k : Nat} {us : List ByteArray} (h : UsK S mch mn k us) (hk : k < mn) (hne : (k : Int) ≠ mch) (hap : ∀ i j, i < mn → j < mn → i ≠ j → (S i).nm ≠ (S j).nm) : (S k).nm ∉ us := fun hmem => by
  obtain ⟨j, h1, h2, h3⟩ := h _ hmem
  exact hap k j hk h2 (by intro e; subst e; rcases h1 with h1 | h1 <;> omega) h3
/-- what fill answers -/
def FillP (p : Int × List UInt8) (Iv : World → Prop) (bm len : Nat) (w : World) (e : Ending) (w' : World) : Prop :=
  GM bm w w' ∧ ((p.1 ≠ 0 ∧ e = .returned (.tuple #[.slice none 0 0, .int .i64 p.1])) ∨ (p.1 = 0 ∧ ∃ a' c, e = .returned (.tuple #[.slice a' len c, .int .i64 0]) ∧ IsBytes w' a' len c p.2 ∧ Iv w'))
theorem OkM.apart {m : Msg} (h : OkM m) {i j : Nat} (hi : i < m.sigs.length) (hj : j < m.sigs.length) (hne : i ≠ j) : (m.at i).nm ≠ (m.at j).nm := by
  rcases Nat.lt_or_ge i j with hlt | hge
  · exact (bes_parts (h.bes hj hlt)).1
  · exact fun e => (bes_parts (h.bes hi (by omega : j < i))).1 e.symm
theorem nm_small {s : Sig} {n : Int} (h : chkS s n = 0) : s.nm.size ≤ maxLen := by
  have h1 := (chk_size h).1
  unfold nameB at h1
  rw [Bool.and_eq_true, Bool.and_eq_true, Bool.and_eq_true] at h1
  have h2 : s.nm.data.toList.length ≤ 16 := by simpa using h1.1.1.2
  have h3 := sz_len s.nm
  unfold maxLen
  omega
end Bw
end Go.Proofs.YtlnkhlifkooohaaGreatDoor
namespace Go.Proofs.YtlnkhlifkooohaaGreatDoor
open Go.ChangeShapes Go.WideShapes Go.ChangeAt Go.RowKit Go.Sort
namespace Bw
open Sm
theorem info_u8M : (Tryz.prog.info? 5).map (fun i => (i.zero, i.size, i.bytes)) = some (some (.int .u8 0), 1, 1) := by kernel_rfl
theorem fl_W0 (w : World) (v : MsV) (n : Nat) : Below w.heap.size w ((w.alloc (msC v)).alloc (.cells (madeCells #[.int .u8 0] n) 5)) := ((Below.refl _ _).alloc (Nat.le_refl _) _).alloc (by simp) _
theorem fl_W0m (w : World) (v : MsV) (n : Nat) : MsAt ((w.alloc (msC v)).alloc (.cells (madeCells #[.int .u8 0] n) 5)) w.heap.size v := (MsAt.box w v).kept (awB1 _ _)
theorem fl_W0z (w : World) (v : MsV) (n : Nat) (hn : n ≤ 8) : IsBytes ((w.alloc (msC v)).alloc (.cells (madeCells #[.int .u8 0] n) 5)) (some ⟨w.heap.size + 1, 0, none⟩) n n (List.replicate n 0) := by
  have := zeros_at (w.alloc (msC v)) n (by omega)
  rw [show (w.alloc (msC v)).heap.size = w.heap.size + 1 by simp] at this
  exact this
set_option maxHeartbeats 32000000 in
set_option maxRecDepth 100000 in
theorem fill_none (g : Nat) (lb : Array Value) (eg : ∀ args w, (callFunc g args).run Tryz.prog w = .ok (.enter g args) w) (put : PutF) (Iv : World → List ByteArray → Prop) (bm : Nat) (v : MsV) (n8 : Nat) (w : World) (hM : MsIn w v) (hO : OkM v.m) (hsize : v.m.size = n8)
    (hput : ∀ W used s a c d, Iv W used → s ∈ v.m.sigs → s.nm ∉ used → IsBytes W a n8 c d → Calls Tryz.prog g (#[sgV s, .slice a n8 c] ++ lb) W (PutP (put s d) (fun w' => Iv w' (used ++ [s.nm])) bm n8 W))
    (hIv : ∀ W W' used, Iv W used → Below W.heap.size W W' → Iv W' used) (hmap : ∀ W used, Iv W used → ∃ es cl, W.heap[bm]? = some (.map es cl)) (hI : Iv w []) (hch : v.m.ch < 0) :
    Calls Tryz.prog 29 #[msV v, .func (.func g) #[] lb] w (FillP (fillE put v.m) (fun w' => Iv w' (usedL put v.m)) bm n8 w) := by
  have HBX := Hid.mk (ms_box w v)
  have HMAT := Hid.mk (MsAt.box w v)
  have HPUT := Hid.mk (fun W used k a c d (hk : k < v.n) (hI : Iv W used) (hn : (v.m.at k).nm ∉ used) (hD : IsBytes W a n8 c d) => hput W used (v.m.at k) a c d hI (v.m.mem (by rw [hM.row.len]; exact hk)) hn hD)
  have HIK := Hid.mk hIv
  have HMAP := Hid.mk hmap
  have hent := enter_there
  have hlen : v.m.sigs.length = v.n := hM.row.len
  have hn16 : v.n ≤ 16 := by have := hO.many; omega
  have hn8 : n8 ≤ 8 := by have := hO.size8; omega
  have HT := Hid.mk (fun W a c d (h : GM bm w W) (hD : IsBytes W a n8 c d) => isThere_any v a n8 c d W (hM.keptC h.ck) hD hO hsize (Nat.le_refl _) (by omega))
  have HROW := Hid.mk hM.row
  have HMA := Hid.mk hM
  have HGD : Hid (∀ i, v.m.at i = v.m.sigs.getD i noS) := Hid.mk (fun _ => rfl)
  have HAP := Hid.mk (fun i j (hi : i < v.n) (hj : j < v.n) (hne : i ≠ j) => hO.apart (by rw [hlen]; exact hi) (by rw [hlen]; exact hj) hne)
  have HYES := Hid.mk (fun c k (_ : k < v.n) (h : othB v.m c k = true) => othK_yes v.m c h)
  have HNO := Hid.mk (fun c k (_ : k < v.n) (h : othB v.m c k = false) => othK_no v.m c h)
  have HMORE := Hid.mk (fun c k (hk : k < v.n) (h : othB v.m c k = true) => othK_more v.m c h hk)
  have HOBD : Hid (∀ c k, othB v.m c k = (!((k : Int) == v.m.ch) && thB c (v.m.at k))) := Hid.mk (fun _ _ => rfl)
  have HOK0 : Hid (∀ c, othK v.m c 0 = []) := Hid.mk (fun _ => rfl)
  have hz0 : zerosM v.m = List.replicate n8 0 := by unfold zerosM; rw [hsize]; rfl
  have hmk : ∀ W : World, (Instr.makeSlice 26 (.int .i64 (n8 : Int)) (.int .i64 (n8 : Int))).run Tryz.prog W = .ok (.slice (some ⟨W.heap.size, 0, none⟩) n8 n8) (W.alloc (.cells (madeCells #[.int .u8 0] n8) 5)) := by
    intro W
    exact run_make_row' 26 5 (.int .u8 0) 1 Tryz.underlying26 info_u8M rfl .i64 .i64 n8 (by omega) (by omega) W
  have hCE : chooE put v.m = (0, List.replicate n8 0) := by unfold chooE; rw [if_neg (by omega), hz0]
  have HRES : Hid (fillE put v.m = goE put (othK v.m (choD v.m (List.replicate n8 0)) v.n) (List.replicate n8 0)) := Hid.mk (by unfold fillE; rw [hCE]; simp only [if_true]; rw [hlen])
  have HUSED : Hid (usedL put v.m = [] ++ (othK v.m (choD v.m (List.replicate n8 0)) v.n).map Sig.nm) := Hid.mk (by unfold usedL; rw [hCE, if_neg (by omega), hlen])
  have HU0 : Hid (∀ x ∈ ([] : List ByteArray), ∃ j : Nat, (j : Int) = v.m.ch ∧ j < v.n ∧ x = (v.m.at j).nm) := Hid.mk (fun x hx => by cases hx)
  have HB0 := Hid.mk (fl_W0 w v n8)
  have HGA := Hid.mk (GM.below (hmap _ _ hI) HB0.out)
  have HIA := Hid.mk (hIv _ _ _ hI HB0.out)
  have HMA4 := Hid.mk (fl_W0m w v n8)
  have HBA := Hid.mk (fl_W0z w v n8 hn8)
  obtain ⟨DA, hDA⟩ : ∃ D, D = List.replicate n8 (0 : UInt8) := ⟨_, rfl⟩
  obtain ⟨U0, hU0⟩ : ∃ U : List ByteArray, U = [] := ⟨_, rfl⟩
  rw [← hDA] at HRES HUSED HBA
  rw [← hU0] at HUSED HU0 HIA
  obtain ⟨CHO, hCHO⟩ : ∃ c, c = choD v.m DA := ⟨_, rfl⟩
  rw [← hCHO] at HRES HUSED
  have HT2 : Hid (∀ W a c d, GM bm w W → IsBytes W a n8 c d → d = DA → Calls Tryz.prog 76 #[msV v, .slice a n8 c] W fun e w' => ∃ g, e = .returned (.func (.func 125) #[] #[.pointer (some ⟨g, 0, none⟩)]) ∧ w'.cell? ⟨g, 0, none⟩ = some (.int .i64 CHO) ∧ W.heap.size ≤ g ∧ Below W.heap.size W w') := Hid.mk (fun W a c d h1 h2 h3 => by
    have := HT.out W a c d h1 h2
    rw [h3, ← hCHO] at this
    exact this)
  clear HT
  have HT : Hid (∀ W a c, GM bm w W → IsBytes W a n8 c DA → Calls Tryz.prog 76 #[msV v, .slice a n8 c] W fun e w' => ∃ g, e = .returned (.func (.func 125) #[] #[.pointer (some ⟨g, 0, none⟩)]) ∧ w'.cell? ⟨g, 0, none⟩ = some (.int .i64 CHO) ∧ W.heap.size ≤ g ∧ Below W.heap.size W w') := Hid.mk (fun W a c h1 h2 => HT2.out W a c DA h1 h2 rfl)
  clear HT2 hDA hU0 hCHO hCE hz0 hM hO hput hIv hmap hI
  generalize fillE put v.m = FE at *
  generalize usedL put v.m = UL at *
  generalize hOK : othK v.m = OK at *
  generalize hOB : othB v.m = OB at *
  generalize hS : v.m.at = S at *
  clear hOK hOB hS
  obtain ⟨⟨mid, mlo, mnm, size, mch, sigs⟩, ma, mn, mcap⟩ := v
  simp only at hsize hch
  subst hsize
  unfold msC at HBX HMAT HB0 HGA HIA HMA4 HBA
  unfold msV at HT ⊢
  simp only at HBX HMAT HB0 HGA HIA HMA4 HBA HT HMA HROW HGD HAP HYES HNO HMORE HOBD HRES HUSED HU0 hn16 ⊢
  go_enter Tryz.func29, Tryz.ntmps29
  go_wp2_with fail
  refine (HT.out _ _ _ HGA.out HBA.out).mono ?_
  rintro e w4 ⟨gt, rfl, hgt, hgb, hb4⟩
  have HB4 := Hid.mk hb4
  have HG4 := Hid.mk (HGA.out.trans (GM.below (HMAP.out _ _ HIA.out) hb4))
  have HD4 := Hid.mk (isBytes_below HBA.out hb4)
  have HI4 := Hid.mk (HIK.out _ _ _ HIA.out hb4)
  have HM4 := Hid.mk (HMA.out.keptC HG4.out.ck)
  have HGT := Hid.mk hgt
  obtain ⟨m0, m1, m2, m3, m4, m5⟩ := HMA4.out.kept hb4
  have HMA5 := Hid.mk (HMA4.out.kept hb4)
  simp only at m0 m1 m2 m3 m4 m5
  clear hb4 hgt hgb HT
  go_wp2_with fail
  go_loopw [6, 38] (fun u i wr => ∃ k : Nat, k ≤ mn ∧ i = .int .i64 k ∧ ∃ a c dk, u = .slice a n8 c ∧ Hid (IsBytes wr a n8 c dk) ∧ Hid (goE put (OK CHO k) DA = (0, dk)) ∧ Hid (Iv wr (U0 ++ (OK CHO k).map Sig.nm)) ∧ Hid (UsK S mch mn k (U0 ++ (OK CHO k).map Sig.nm)) ∧ Hid (GM bm w4 wr)) (fun _ i _ => mn - (intOf i).toNat)
  case atStart => exact ⟨0, Nat.zero_le _, rfl, _, _, DA, rfl, HD4, Hid.mk (by rw [HOK0.out]; rfl), Hid.mk (by rw [HOK0.out, List.map_nil, List.append_nil]; exact HI4.out), Hid.mk (by rw [HOK0.out, List.map_nil, List.append_nil]; exact UsK.start HU0.out), Hid.mk ⟨⟨rfl, rfl, rfl, Nat.le_refl _, fun _ _ _ => rfl⟩, HMAP.out _ _ HI4.out⟩⟩
  case round =>
    obtain ⟨k, hk, rfl, ak, ck, dk, rfl, HDk, HGk, HIk, HUk, HGM⟩ := hrel
    by_cases hlt : k < mn
    · have hlt' : (k : Int) < (mn : Int) := by omega
      obtain ⟨x, hx⟩ := HROW.out.some hlt
      cases hx
      have hSg := ((HROW.out.keptC HG4.out.ck).keptC HGM.out.ck).at hlt
      rw [← HGD.out] at hSg
      have HBX1 := Hid.mk (sg_box wr (S k))
      have HSAT := Hid.mk (SgAt.box wr (S k))
      have HTH := Hid.mk (fun W (hb : CK wr W) => there_any (S k) gt CHO W (hb _ _ (HGM.out.ck _ _ HGT.out)))
      have HYk := Hid.mk (HYES.out CHO k hlt)
      have HNk := Hid.mk (HNO.out CHO k hlt)
      have HMk := Hid.mk (HMORE.out CHO k hlt)
      have HPk := Hid.mk (fun W used (hI : Iv W used) (hn : (S k).nm ∉ used) (hD : IsBytes W ak n8 ck dk) => HPUT.out W used k ak ck dk hlt hI hn hD)
      have HNU : Hid ((k : Int) ≠ mch → (S k).nm ∉ U0 ++ (OK CHO k).map Sig.nm) := Hid.mk (fun hne => HUk.out.free hlt hne HAP.out)
      have HOB : Hid (OB CHO k = (!((k : Int) == mch) && thB CHO (S k))) := Hid.mk (HOBD.out CHO k)
      have HIk1 := Hid.mk (HIK.out _ _ _ HIk.out HBX1.out)
      have HDk1 := Hid.mk (isBytes_below HDk.out HBX1.out)
      obtain ⟨m0, m1, m2, m3, m4, m5⟩ := (HMA5.out.keptC HGM.out.ck).kept HBX1.out
      simp only at m0 m1 m2 m3 m4 m5
      have HSK : Hid (∃ y, y = S k) := Hid.mk ⟨_, rfl⟩
      obtain ⟨sk, hsk⟩ := HSK.out
      rw [← hsk] at hSg HTH HYk HMk HPk HNU HOB
      simp only [← hsk] at HBX1 HSAT HIk1 HDk1 m0 m1 m2 m3 m4 m5
      have HSKE := Hid.mk hsk
      clear hsk HSK
      generalize thB CHO sk = TH at *
      generalize hput : put sk dk = PD at *
      have HPD := Hid.mk hput
      clear hput
      obtain ⟨nm, st, sz, bk, sg, mu, di, ad, ky⟩ := sk
      unfold sgC at HBX1 HSAT HIk1 HDk1 m0 m1 m2 m3 m4 m5
      unfold sgV at HTH HPk
      simp only at HBX1 HSAT HTH HYk HMk HPk HNU HIk1 HDk1 m0 m1 m2 m3 m4 m5
      obtain ⟨s0, s1, s2, s3, s4, s5, s6, s7, s8⟩ := hSg
      simp only at s0 s1 s2 s3 s4 s5 s6 s7 s8
      by_cases hkc : (k : Int) = mch
      · have HN := Hid.mk (HNk.out (by rw [HOB.out, hkc]; simp))
        have hke : ((k : Int) == mch) = true := by simpa using hkc
        clear hkc
        go_wp2_with fail
        go_roundw
        case rel => exact ⟨k + 1, by omega, by go_num, _, _, dk, rfl, HDk1, by rw [HN.out]; exact HGk, by rw [HN.out]; exact HIk1, Hid.mk (by rw [HN.out]; exact HUk.out.next), Hid.mk (HGM.out.trans (GM.below (HMAP.out _ _ HIk.out) HBX1.out))⟩
        case measure => simp [intOf]; omega
      · have hke : ((k : Int) == mch) = false := by simpa using hkc
        have HNU1 := Hid.mk (HNU.out hkc)
        clear hkc
        cases TH with
        | false =>
          have HN := Hid.mk (HNk.out (by rw [HOB.out]; simp))
          go_wp2_with (go_at_fn 125; refine (HTH.out _ (CK.below HBX1.out)).mono ?_; rintro e w5 ⟨rfl, hb5⟩; have HB5 := Hid.mk hb5; clear hb5)
          go_roundw
          case rel => exact ⟨k + 1, by omega, by go_num, _, _, dk, rfl, Hid.mk (isBytes_below HDk1.out HB5.out), by rw [HN.out]; exact HGk, by rw [HN.out]; exact Hid.mk (HIK.out _ _ _ HIk1.out HB5.out), Hid.mk (by rw [HN.out]; exact HUk.out.next), Hid.mk (HGM.out.trans (GM.below (HMAP.out _ _ HIk.out) (bl2 HBX1.out HB5.out)))⟩
          case measure => simp [intOf]; omega
        | true =>
          have HYY := Hid.mk (HYk.out (by rw [HOB.out, hke]; rfl))
          have HMM := Hid.mk (HMk.out (by rw [HOB.out, hke]; rfl))
          go_wp2_with (first | (go_at_fn 125; refine (HTH.out _ (CK.below HBX1.out)).mono ?_; rintro e w5 ⟨rfl, hb5⟩; have HB5 := Hid.mk hb5; obtain ⟨s0, s1, s2, s3, s4, s5, s6, s7, s8⟩ := HSAT.out.kept hb5; clear hb5; simp only at s0 s1 s2 s3 s4 s5 s6 s7 s8) | (go_at_fn g; refine (HPk.out _ _ (HIK.out _ _ _ HIk1.out HB5.out) HNU1.out (isBytes_below HDk1.out HB5.out)).mono ?_; rintro e w6 ⟨HG6a, ⟨u, rfl, hne⟩ | ⟨a', c', rfl, HR6⟩⟩))
          · have HG6 := Hid.mk ((HGM.out.trans (GM.below (HMAP.out _ _ HIk.out) (bl2 HBX1.out HB5.out))).trans HG6a.out)
            go_ret2
            refine ⟨HG4.out.trans HG6.out, .inl ?_⟩
            obtain ⟨t, ht⟩ := HMM.out
            have hne1 : PD.1 ≠ 0 := by simpa using hne
            have hfin : goE put (OK CHO mn) DA = (PD.1, []) := by
              rw [ht, goE_fail HGk.out (by rw [HPD.out]; exact hne1), HPD.out]
            rw [HRES.out, hfin]
            exact ⟨hne1, rfl⟩
          · have HG6 := Hid.mk ((HGM.out.trans (GM.below (HMAP.out _ _ HIk.out) (bl2 HBX1.out HB5.out))).trans HG6a.out)
            have HZ := Hid.mk HR6.out.1
            have HB' := Hid.mk HR6.out.2.1
            have HI' := Hid.mk HR6.out.2.2
            go_roundw
            case rel =>
              refine ⟨k + 1, by omega, by go_num, _, _, PD.2, rfl, HB', ?_, ?_, ?_, HG6⟩
              · rw [HYY.out]
                exact Hid.mk (by rw [goE_snoc HGk.out (by rw [HPD.out]; exact HZ.out), HPD.out])
              · rw [HYY.out]
                have := HI'.out
                rw [List.append_assoc] at this
                exact Hid.mk (by rw [List.map_append]; exact this)
              · rw [HYY.out]
                have := HUk.out.snoc hlt
                rw [← HSKE.out, List.append_assoc] at this
                exact Hid.mk (by rw [List.map_append]; exact this)
            case measure => simp [intOf]; omega
    · have e : k = mn := by omega
      subst e
      go_wp2_with fail
      go_ret2
      refine ⟨HG4.out.trans HGM.out, .inr ?_⟩
      rw [HRES.out, HGk.out]
      exact ⟨rfl, _, _, rfl, HDk.out, by rw [HUSED.out]; exact HIk.out⟩
end Bw
end Go.Proofs.YtlnkhlifkooohaaGreatDoor
namespace Go.Proofs.YtlnkhlifkooohaaGreatDoor
open Go.ChangeShapes Go.WideShapes Go.ChangeAt Go.RowKit Go.Sort
namespace Bw
open Sm
set_option maxHeartbeats 32000000 in
set_option maxRecDepth 100000 in
theorem fill_some (g : Nat) (lb : Array Value) (eg : ∀ args w, (callFunc g args).run Tryz.prog w = .ok (.enter g args) w) (put : PutF) (Iv : World → List ByteArray → Prop) (bm : Nat) (v : MsV) (n8 : Nat) (w : World) (hM : MsIn w v) (hO : OkM v.m) (hsize : v.m.size = n8)
    (hput : ∀ W used s a c d, Iv W used → s ∈ v.m.sigs → s.nm ∉ used → IsBytes W a n8 c d → Calls Tryz.prog g (#[sgV s, .slice a n8 c] ++ lb) W (PutP (put s d) (fun w' => Iv w' (used ++ [s.nm])) bm n8 W))
    (hIv : ∀ W W' used, Iv W used → Below W.heap.size W W' → Iv W' used) (hmap : ∀ W used, Iv W used → ∃ es cl, W.heap[bm]? = some (.map es cl)) (hI : Iv w []) (hch : 0 ≤ v.m.ch) :
    Calls Tryz.prog 29 #[msV v, .func (.func g) #[] lb] w (FillP (fillE put v.m) (fun w' => Iv w' (usedL put v.m)) bm n8 w) := by
  have HBX := Hid.mk (ms_box w v)
  have HMAT := Hid.mk (MsAt.box w v)
  have HPUT := Hid.mk (fun W used k a c d (hk : k < v.n) (hI : Iv W used) (hn : (v.m.at k).nm ∉ used) (hD : IsBytes W a n8 c d) => hput W used (v.m.at k) a c d hI (v.m.mem (by rw [hM.row.len]; exact hk)) hn hD)
  have HIK := Hid.mk hIv
  have HMAP := Hid.mk hmap
  have hent := enter_there
  have hlen : v.m.sigs.length = v.n := hM.row.len
  have hn16 : v.n ≤ 16 := by have := hO.many; omega
  have hn8 : n8 ≤ 8 := by have := hO.size8; omega
  have HT := Hid.mk (fun W a c d (h : GM bm w W) (hD : IsBytes W a n8 c d) => isThere_any v a n8 c d W (hM.keptC h.ck) hD hO hsize (Nat.le_refl _) (by omega))
  have HROW := Hid.mk hM.row
  have HMA := Hid.mk hM
  have HGD : Hid (∀ i, v.m.at i = v.m.sigs.getD i noS) := Hid.mk (fun _ => rfl)
  have HAP := Hid.mk (fun i j (hi : i < v.n) (hj : j < v.n) (hne : i ≠ j) => hO.apart (by rw [hlen]; exact hi) (by rw [hlen]; exact hj) hne)
  have HYES := Hid.mk (fun c k (_ : k < v.n) (h : othB v.m c k = true) => othK_yes v.m c h)
  have HNO := Hid.mk (fun c k (_ : k < v.n) (h : othB v.m c k = false) => othK_no v.m c h)
  have HMORE := Hid.mk (fun c k (hk : k < v.n) (h : othB v.m c k = true) => othK_more v.m c h hk)
  have HOBD : Hid (∀ c k, othB v.m c k = (!((k : Int) == v.m.ch) && thB c (v.m.at k))) := Hid.mk (fun _ _ => rfl)
  have HOK0 : Hid (∀ c, othK v.m c 0 = []) := Hid.mk (fun _ => rfl)
  have hz0 : zerosM v.m = List.replicate n8 0 := by unfold zerosM; rw [hsize]; rfl
  have hmk : ∀ W : World, (Instr.makeSlice 26 (.int .i64 (n8 : Int)) (.int .i64 (n8 : Int))).run Tryz.prog W = .ok (.slice (some ⟨W.heap.size, 0, none⟩) n8 n8) (W.alloc (.cells (madeCells #[.int .u8 0] n8) 5)) := by
    intro W
    exact run_make_row' 26 5 (.int .u8 0) 1 Tryz.underlying26 info_u8M rfl .i64 .i64 n8 (by omega) (by omega) W
  obtain ⟨c0, hc0⟩ : ∃ c0 : Nat, v.m.ch = c0 := ⟨v.m.ch.toNat, by omega⟩
  have hc0n : c0 < v.n := by have := hO.ch1; omega
  have hCE : chooE put v.m = put (v.m.at c0) (List.replicate n8 0) := by unfold chooE; rw [if_pos hch, hz0, hc0, Int.toNat_natCast]
  have HRESB : Hid ((put (v.m.at c0) (List.replicate n8 0)).1 ≠ 0 → fillE put v.m = ((put (v.m.at c0) (List.replicate n8 0)).1, [])) := Hid.mk (fun h => by unfold fillE; rw [hCE, if_neg h])
  have HRESA : Hid ((put (v.m.at c0) (List.replicate n8 0)).1 = 0 → fillE put v.m = goE put (othK v.m (choD v.m (put (v.m.at c0) (List.replicate n8 0)).2) v.n) (put (v.m.at c0) (List.replicate n8 0)).2) := Hid.mk (fun h => by unfold fillE; rw [hCE, if_pos h, hlen])
  have HUSED : Hid (usedL put v.m = [(v.m.at c0).nm] ++ (othK v.m (choD v.m (put (v.m.at c0) (List.replicate n8 0)).2) v.n).map Sig.nm) := Hid.mk (by unfold usedL; rw [hCE, if_pos hch, hlen, hc0, Int.toNat_natCast])
  have HU0 : Hid (∀ x ∈ [(v.m.at c0).nm], ∃ j : Nat, (j : Int) = v.m.ch ∧ j < v.n ∧ x = (v.m.at j).nm) := Hid.mk (fun x hx => ⟨c0, hc0.symm, hc0n, by simpa using hx⟩)
  have HB0 := Hid.mk (fl_W0 w v n8)
  have HG0 := Hid.mk (GM.below (hmap _ _ hI) HB0.out)
  have HP0 := Hid.mk (hput _ [] (v.m.at c0) _ _ _ (hIv _ _ _ hI HB0.out) (v.m.mem (by omega)) (by simp) (fl_W0z w v n8 hn8))
  have HMA0 := Hid.mk (fl_W0m w v n8)
  obtain ⟨x0, hx0⟩ := hM.row.some hc0n
  have hr := hM.row
  rw [hx0] at hr
  have hSg0 := (hr.kept HB0.out).at hc0n
  have e9 : v.m.sigs.getD c0 noS = v.m.at c0 := rfl
  rw [e9] at hSg0
  obtain ⟨PD0, hPD0⟩ : ∃ p, p = put (v.m.at c0) (List.replicate n8 0) := ⟨_, rfl⟩
  rw [← hPD0] at HRESB HRESA HUSED HP0
  obtain ⟨CHO, hCHO⟩ : ∃ c, c = choD v.m PD0.2 := ⟨_, rfl⟩
  rw [← hCHO] at HRESA HUSED
  obtain ⟨DA, hDA⟩ : ∃ D, D = PD0.2 := ⟨_, rfl⟩
  rw [← hDA] at HRESA hCHO
  have HT2 : Hid (∀ W a c, GM bm w W → IsBytes W a n8 c DA → Calls Tryz.prog 76 #[msV v, .slice a n8 c] W fun e w' => ∃ g, e = .returned (.func (.func 125) #[] #[.pointer (some ⟨g, 0, none⟩)]) ∧ w'.cell? ⟨g, 0, none⟩ = some (.int .i64 CHO) ∧ W.heap.size ≤ g ∧ Below W.heap.size W w') := Hid.mk (fun W a c h1 h2 => by
    have := HT.out W a c DA h1 h2
    rw [← hCHO] at this
    exact this)
  clear HT
  have HT : Hid (∀ W a c, GM bm w W → IsBytes W a n8 c DA → Calls Tryz.prog 76 #[msV v, .slice a n8 c] W fun e w' => ∃ g, e = .returned (.func (.func 125) #[] #[.pointer (some ⟨g, 0, none⟩)]) ∧ w'.cell? ⟨g, 0, none⟩ = some (.int .i64 CHO) ∧ W.heap.size ≤ g ∧ Below W.heap.size W w') := Hid.mk (fun W a c h1 h2 => HT2.out W a c h1 h2)
  have HDA := Hid.mk hDA
  obtain ⟨U0, hU0⟩ : ∃ U : List ByteArray, U = [(v.m.at c0).nm] := ⟨_, rfl⟩
  have hne0 : ([] : List ByteArray) ++ [(v.m.at c0).nm] = U0 := by rw [hU0]; rfl
  rw [← hU0] at HUSED HU0
  rw [hne0] at HP0
  clear HT2 hDA hU0 hCHO hCE hz0 hM hO hput hIv hmap hI hPD0 e9 hr hne0
  generalize fillE put v.m = FE at *
  generalize usedL put v.m = UL at *
  generalize hOK : othK v.m = OK at *
  generalize hOB : othB v.m = OB at *
  generalize hS : v.m.at = S at *
  clear hOK hOB hS
  have HSC : Hid (∃ y, y = S c0) := Hid.mk ⟨_, rfl⟩
  obtain ⟨sc, hsc⟩ := HSC.out
  rw [← hsc] at hSg0 HP0
  clear hsc HSC
  obtain ⟨nm0, st0, sz0, bk0, sg0, mu0, di0, ad0, ky0⟩ := sc
  obtain ⟨⟨mid, mlo, mnm, size, mch, sigs⟩, ma, mn, mcap⟩ := v
  simp only at hsize hch hc0 hx0 hc0n
  subst hsize
  subst hc0
  subst hx0
  unfold msC at HBX HMAT HB0 HG0 HMA0 HP0 hSg0
  unfold msV at HT ⊢
  unfold sgV at HP0
  obtain ⟨z0, z1, z2, z3, z4, z5, z6, z7, z8⟩ := hSg0
  simp only at HBX HMAT HB0 HG0 HMA0 HP0 HT HMA HROW HGD HAP HYES HNO HMORE HOBD HRESA HRESB HUSED HU0 hn16 z0 z1 z2 z3 z4 z5 z6 z7 z8 hc0n ⊢
  have hcc : (c0 : Int) < (mn : Int) := by omega
  have hcc0 : (0 : Int) ≤ (c0 : Int) := by omega
  obtain ⟨m0, m1, m2, m3, m4, m5⟩ := HMA0.out
  simp only at m0 m1 m2 m3 m4 m5
  go_enter Tryz.func29, Tryz.ntmps29
  go_wp2_with (go_at_fn g; refine HP0.out.mono ?_; (rintro e w3 ⟨HG3a, ⟨u, rfl, hne⟩ | ⟨a3, c3, rfl, HR3⟩⟩ <;> (obtain ⟨m0, m1, m2, m3, m4, m5⟩ := HMA0.out.keptC HG3a.out.ck; simp only at m0 m1 m2 m3 m4 m5)))
  · go_ret2
    refine ⟨HG0.out.trans HG3a.out, .inl ?_⟩
    have hne1 : PD0.1 ≠ 0 := by simpa using hne
    rw [HRESB.out hne1]
    exact ⟨hne1, rfl⟩
  have HGA := Hid.mk (HG0.out.trans HG3a.out)
  have HMA4 := Hid.mk (HMA0.out.keptC HG3a.out.ck)
  obtain ⟨m0, m1, m2, m3, m4, m5⟩ := HMA4.out
  simp only at m0 m1 m2 m3 m4 m5
  have HRES := Hid.mk (HRESA.out HR3.out.1)
  have hB3 := HR3.out.2.1
  rw [← HDA.out] at hB3
  have HBA := Hid.mk hB3
  have HIA := Hid.mk HR3.out.2.2
  clear hB3 HRESA HRESB
  refine (HT.out _ _ _ HGA.out HBA.out).mono ?_
  rintro e w4 ⟨gt, rfl, hgt, hgb, hb4⟩
  have HB4 := Hid.mk hb4
  have HG4 := Hid.mk (HGA.out.trans (GM.below (HMAP.out _ _ HIA.out) hb4))
  have HD4 := Hid.mk (isBytes_below HBA.out hb4)
  have HI4 := Hid.mk (HIK.out _ _ _ HIA.out hb4)
  have HM4 := Hid.mk (HMA.out.keptC HG4.out.ck)
  have HGT := Hid.mk hgt
  obtain ⟨m0, m1, m2, m3, m4, m5⟩ := HMA4.out.kept hb4
  have HMA5 := Hid.mk (HMA4.out.kept hb4)
  simp only at m0 m1 m2 m3 m4 m5
  clear hb4 hgt hgb HT
  go_wp2_with fail
  go_loopw [6, 38] (fun u i wr => ∃ k : Nat, k ≤ mn ∧ i = .int .i64 k ∧ ∃ a c dk, u = .slice a n8 c ∧ Hid (IsBytes wr a n8 c dk) ∧ Hid (goE put (OK CHO k) DA = (0, dk)) ∧ Hid (Iv wr (U0 ++ (OK CHO k).map Sig.nm)) ∧ Hid (UsK S (c0 : Int) mn k (U0 ++ (OK CHO k).map Sig.nm)) ∧ Hid (GM bm w4 wr)) (fun _ i _ => mn - (intOf i).toNat)
  case atStart => exact ⟨0, Nat.zero_le _, rfl, _, _, DA, rfl, HD4, Hid.mk (by rw [HOK0.out]; rfl), Hid.mk (by rw [HOK0.out, List.map_nil, List.append_nil]; exact HI4.out), Hid.mk (by rw [HOK0.out, List.map_nil, List.append_nil]; exact UsK.start HU0.out), Hid.mk ⟨⟨rfl, rfl, rfl, Nat.le_refl _, fun _ _ _ => rfl⟩, HMAP.out _ _ HI4.out⟩⟩
  case round =>
    obtain ⟨k, hk, rfl, ak, ck, dk, rfl, HDk, HGk, HIk, HUk, HGM⟩ := hrel
    by_cases hlt : k < mn
    · have hlt' : (k : Int) < (mn : Int) := by omega
      obtain ⟨x, hx⟩ := HROW.out.some hlt
      cases hx
      have hSg := ((HROW.out.keptC HG4.out.ck).keptC HGM.out.ck).at hlt
      rw [← HGD.out] at hSg
      have HBX1 := Hid.mk (sg_box wr (S k))
      have HSAT := Hid.mk (SgAt.box wr (S k))
      have HTH := Hid.mk (fun W (hb : CK wr W) => there_any (S k) gt CHO W (hb _ _ (HGM.out.ck _ _ HGT.out)))
      have HYk := Hid.mk (HYES.out CHO k hlt)
      have HNk := Hid.mk (HNO.out CHO k hlt)
      have HMk := Hid.mk (HMORE.out CHO k hlt)
      have HPk := Hid.mk (fun W used (hI : Iv W used) (hn : (S k).nm ∉ used) (hD : IsBytes W ak n8 ck dk) => HPUT.out W used k ak ck dk hlt hI hn hD)
      have HNU : Hid ((k : Int) ≠ (c0 : Int) → (S k).nm ∉ U0 ++ (OK CHO k).map Sig.nm) := Hid.mk (fun hne => HUk.out.free hlt hne HAP.out)
      have HOB : Hid (OB CHO k = (!((k : Int) == (c0 : Int)) && thB CHO (S k))) := Hid.mk (HOBD.out CHO k)
      have HIk1 := Hid.mk (HIK.out _ _ _ HIk.out HBX1.out)
      have HDk1 := Hid.mk (isBytes_below HDk.out HBX1.out)
      obtain ⟨m0, m1, m2, m3, m4, m5⟩ := (HMA5.out.keptC HGM.out.ck).kept HBX1.out
      simp only at m0 m1 m2 m3 m4 m5
      have HSK : Hid (∃ y, y = S k) := Hid.mk ⟨_, rfl⟩
      obtain ⟨sk, hsk⟩ := HSK.out
      rw [← hsk] at hSg HTH HYk HMk HPk HNU HOB
      simp only [← hsk] at HBX1 HSAT HIk1 HDk1 m0 m1 m2 m3 m4 m5
      have HSKE := Hid.mk hsk
      clear hsk HSK
      generalize thB CHO sk = TH at *
      generalize hput : put sk dk = PD at *
      have HPD := Hid.mk hput
      clear hput
      obtain ⟨nm, st, sz, bk, sg, mu, di, ad, ky⟩ := sk
      unfold sgC at HBX1 HSAT HIk1 HDk1 m0 m1 m2 m3 m4 m5
      unfold sgV at HTH HPk
      simp only at HBX1 HSAT HTH HYk HMk HPk HNU HIk1 HDk1 m0 m1 m2 m3 m4 m5
      obtain ⟨s0, s1, s2, s3, s4, s5, s6, s7, s8⟩ := hSg
      simp only at s0 s1 s2 s3 s4 s5 s6 s7 s8
      by_cases hkc : (k : Int) = (c0 : Int)
      · have HN := Hid.mk (HNk.out (by rw [HOB.out, hkc]; simp))
        have hke : ((k : Int) == (c0 : Int)) = true := by rw [hkc]; simp
        clear hkc
        go_wp2_with fail
        go_roundw
        case rel => exact ⟨k + 1, by omega, by go_num, _, _, dk, rfl, HDk1, by rw [HN.out]; exact HGk, by rw [HN.out]; exact HIk1, Hid.mk (by rw [HN.out]; exact HUk.out.next), Hid.mk (HGM.out.trans (GM.below (HMAP.out _ _ HIk.out) HBX1.out))⟩
        case measure => simp [intOf]; omega
      · have hke : ((k : Int) == (c0 : Int)) = false := beq_false_of_ne hkc
        have HNU1 := Hid.mk (HNU.out hkc)
        clear hkc
        cases TH with
        | false =>
          have HN := Hid.mk (HNk.out (by rw [HOB.out]; simp))
          go_wp2_with (go_at_fn 125; refine (HTH.out _ (CK.below HBX1.out)).mono ?_; rintro e w5 ⟨rfl, hb5⟩; have HB5 := Hid.mk hb5; clear hb5)
          go_roundw
          case rel => exact ⟨k + 1, by omega, by go_num, _, _, dk, rfl, Hid.mk (isBytes_below HDk1.out HB5.out), by rw [HN.out]; exact HGk, by rw [HN.out]; exact Hid.mk (HIK.out _ _ _ HIk1.out HB5.out), Hid.mk (by rw [HN.out]; exact HUk.out.next), Hid.mk (HGM.out.trans (GM.below (HMAP.out _ _ HIk.out) (bl2 HBX1.out HB5.out)))⟩
          case measure => simp [intOf]; omega
        | true =>
          have HYY := Hid.mk (HYk.out (by rw [HOB.out, hke]; rfl))
          have HMM := Hid.mk (HMk.out (by rw [HOB.out, hke]; rfl))
          go_wp2_with (first | (go_at_fn 125; refine (HTH.out _ (CK.below HBX1.out)).mono ?_; rintro e w5 ⟨rfl, hb5⟩; have HB5 := Hid.mk hb5; obtain ⟨s0, s1, s2, s3, s4, s5, s6, s7, s8⟩ := HSAT.out.kept hb5; clear hb5; simp only at s0 s1 s2 s3 s4 s5 s6 s7 s8) | (go_at_fn g; refine (HPk.out _ _ (HIK.out _ _ _ HIk1.out HB5.out) HNU1.out (isBytes_below HDk1.out HB5.out)).mono ?_; rintro e w6 ⟨HG6a, ⟨u, rfl, hne⟩ | ⟨a', c', rfl, HR6⟩⟩))
          · have HG6 := Hid.mk ((HGM.out.trans (GM.below (HMAP.out _ _ HIk.out) (bl2 HBX1.out HB5.out))).trans HG6a.out)
            go_ret2
            refine ⟨HG4.out.trans HG6.out, .inl ?_⟩
            obtain ⟨t, ht⟩ := HMM.out
            have hne1 : PD.1 ≠ 0 := by simpa using hne
            have hfin : goE put (OK CHO mn) DA = (PD.1, []) := by
              rw [ht, goE_fail HGk.out (by rw [HPD.out]; exact hne1), HPD.out]
            rw [HRES.out, hfin]
            exact ⟨hne1, rfl⟩
          · have HG6 := Hid.mk ((HGM.out.trans (GM.below (HMAP.out _ _ HIk.out) (bl2 HBX1.out HB5.out))).trans HG6a.out)
            have HZ := Hid.mk HR6.out.1
            have HB' := Hid.mk HR6.out.2.1
            have HI' := Hid.mk HR6.out.2.2
            go_roundw
            case rel =>
              refine ⟨k + 1, by omega, by go_num, _, _, PD.2, rfl, HB', ?_, ?_, ?_, HG6⟩
              · rw [HYY.out]
                exact Hid.mk (by rw [goE_snoc HGk.out (by rw [HPD.out]; exact HZ.out), HPD.out])
              · rw [HYY.out]
                have := HI'.out
                rw [List.append_assoc] at this
                exact Hid.mk (by rw [List.map_append]; exact this)
              · rw [HYY.out]
                have := HUk.out.snoc hlt
                rw [← HSKE.out, List.append_assoc] at this
                exact Hid.mk (by rw [List.map_append]; exact this)
            case measure => simp [intOf]; omega
    · have e : k = mn := by omega
      subst e
      go_wp2_with fail
      go_ret2
      refine ⟨HG4.out.trans HGM.out, .inr ?_⟩
      rw [HRES.out, HGk.out]
      exact ⟨rfl, _, _, rfl, HDk.out, by rw [HUSED.out]; exact HIk.out⟩
end Bw
end Go.Proofs.YtlnkhlifkooohaaGreatDoor
namespace Go.Proofs.YtlnkhlifkooohaaGreatDoor
open Go.ChangeShapes Go.WideShapes Go.ChangeAt Go.RowKit
namespace Bw
open Sm
def Six (w : World) (g : Nat) (c0 c1 c2 c3 c4 c5 : Value) : Prop := w.heap[g]? = some (.cells #[c0, c1, c2, c3, c4, c5] 28 (0, 0))
theorem Six.lt {w : World} {g : Nat} {c0 c1 c2 c3 c4 c5 : Value} (h : Six w g c0 c1 c2 c3 c4 c5) : g < w.heap.size := (Array.getElem?_eq_some_iff.1 h).1
theorem Six.kept {w w' : World} {g : Nat} {c0 c1 c2 c3 c4 c5 : Value} (h : Six w g c0 c1 c2 c3 c4 c5) (hb : Below w.heap.size w w') : Six w' g c0 c1 c2 c3 c4 c5 := by unfold Six; rw [hb.block g h.lt]; exact h
theorem Six.keptG {bm : Nat} {w w' : World} {g : Nat} {c0 c1 c2 c3 c4 c5 : Value} (h : Six w g c0 c1 c2 c3 c4 c5) (hb : GM bm w w') : Six w' g c0 c1 c2 c3 c4 c5 := by
  unfold Six
  rw [hb.grown.block g h.lt (fun e => by
    obtain ⟨es, cl, hm⟩ := hb.map
    have e1 : g = bm := by simpa using e
    subst e1
    unfold Six at h
    rw [h] at hm
    cases hm)]
  exact h
theorem Six.cells {w : World} {g : Nat} {c0 c1 c2 c3 c4 c5 : Value} (h : Six w g c0 c1 c2 c3 c4 c5) : (w.cell? ⟨g, 0, none⟩ = some c0 ∧ w.cell? ⟨g, 1, none⟩ = some c1 ∧ w.cell? ⟨g, 2, none⟩ = some c2 ∧ w.cell? ⟨g, 3, none⟩ = some c3 ∧ w.cell? ⟨g, 4, none⟩ = some c4 ∧ w.cell? ⟨g, 5, none⟩ = some c5) ∧ (w.frozen? ⟨g, 0, none⟩ = false ∧ w.frozen? ⟨g, 1, none⟩ = false ∧ w.frozen? ⟨g, 2, none⟩ = false ∧ w.frozen? ⟨g, 3, none⟩ = false ∧ w.frozen? ⟨g, 4, none⟩ = false ∧ w.frozen? ⟨g, 5, none⟩ = false) :=
  ⟨⟨cell_of_row _ _ 0 _ _ _ h, cell_of_row _ _ 1 _ _ _ h, cell_of_row _ _ 2 _ _ _ h, cell_of_row _ _ 3 _ _ _ h, cell_of_row _ _ 4 _ _ _ h, cell_of_row _ _ 5 _ _ _ h⟩, ⟨frozen_of_row _ _ 0 _ _ h, frozen_of_row _ _ 1 _ _ h, frozen_of_row _ _ 2 _ _ h, frozen_of_row _ _ 3 _ _ h, frozen_of_row _ _ 4 _ _ h, frozen_of_row _ _ 5 _ _ h⟩⟩
theorem Six.store {w : World} {g : Nat} {c0 c1 c2 c3 c4 c5 : Value} (h : Six w g c0 c1 c2 c3 c4 c5) (d0 d1 d2 d3 d4 d5 : Value) :
    ((w.setCell ⟨g, 0, none⟩ d0).cell? ⟨g, 1, none⟩ = some c1 ∧ (w.setCell ⟨g, 0, none⟩ d0).frozen? ⟨g, 1, none⟩ = false) ∧ (((w.setCell ⟨g, 0, none⟩ d0).setCell ⟨g, 1, none⟩ d1).cell? ⟨g, 2, none⟩ = some c2 ∧ ((w.setCell ⟨g, 0, none⟩ d0).setCell ⟨g, 1, none⟩ d1).frozen? ⟨g, 2, none⟩ = false) ∧ ((((w.setCell ⟨g, 0, none⟩ d0).setCell ⟨g, 1, none⟩ d1).setCell ⟨g, 2, none⟩ d2).cell? ⟨g, 3, none⟩ = some c3 ∧ (((w.setCell ⟨g, 0, none⟩ d0).setCell ⟨g, 1, none⟩ d1).setCell ⟨g, 2, none⟩ d2).frozen? ⟨g, 3, none⟩ = false) ∧ (((((w.setCell ⟨g, 0, none⟩ d0).setCell ⟨g, 1, none⟩ d1).setCell ⟨g, 2, none⟩ d2).setCell ⟨g, 3, none⟩ d3).cell? ⟨g, 4, none⟩ = some c4 ∧ ((((w.setCell ⟨g, 0, none⟩ d0).setCell ⟨g, 1, none⟩ d1).setCell ⟨g, 2, none⟩ d2).setCell ⟨g, 3, none⟩ d3).frozen? ⟨g, 4, none⟩ = false) ∧ ((((((w.setCell ⟨g, 0, none⟩ d0).setCell ⟨g, 1, none⟩ d1).setCell ⟨g, 2, none⟩ d2).setCell ⟨g, 3, none⟩ d3).setCell ⟨g, 4, none⟩ d4).cell? ⟨g, 5, none⟩ = some c5 ∧ (((((w.setCell ⟨g, 0, none⟩ d0).setCell ⟨g, 1, none⟩ d1).setCell ⟨g, 2, none⟩ d2).setCell ⟨g, 3, none⟩ d3).setCell ⟨g, 4, none⟩ d4).frozen? ⟨g, 5, none⟩ = false) ∧ Six ((((((w.setCell ⟨g, 0, none⟩ d0).setCell ⟨g, 1, none⟩ d1).setCell ⟨g, 2, none⟩ d2).setCell ⟨g, 3, none⟩ d3).setCell ⟨g, 4, none⟩ d4).setCell ⟨g, 5, none⟩ d5) g d0 d1 d2 d3 d4 d5 := by
  have e0 : w.heap[g]? = some (.cells #[c0, c1, c2, c3, c4, c5] 28 (0, 0)) := h
  have e1 := heap_setCell_same _ g 0 _ _ d0 e0
  have e2 := heap_setCell_same _ g 1 _ _ d1 e1
  have e3 := heap_setCell_same _ g 2 _ _ d2 e2
  have e4 := heap_setCell_same _ g 3 _ _ d3 e3
  have e5 := heap_setCell_same _ g 4 _ _ d4 e4
  have e6 := heap_setCell_same _ g 5 _ _ d5 e5
  exact ⟨⟨cell_of_row _ _ 1 _ _ _ e1, frozen_of_row _ _ 1 _ _ e1⟩, ⟨cell_of_row _ _ 2 _ _ _ e2, frozen_of_row _ _ 2 _ _ e2⟩, ⟨cell_of_row _ _ 3 _ _ _ e3, frozen_of_row _ _ 3 _ _ e3⟩, ⟨cell_of_row _ _ 4 _ _ _ e4, frozen_of_row _ _ 4 _ _ e4⟩, ⟨cell_of_row _ _ 5 _ _ _ e5, frozen_of_row _ _ 5 _ _ e5⟩, e6⟩
theorem six_B {B : Nat} {a w : World} (h : Below B a w) {g : Nat} (hg : B ≤ g) (d0 d1 d2 d3 d4 d5 : Value) : Below B a ((((((w.setCell ⟨g, 0, none⟩ d0).setCell ⟨g, 1, none⟩ d1).setCell ⟨g, 2, none⟩ d2).setCell ⟨g, 3, none⟩ d3).setCell ⟨g, 4, none⟩ d4).setCell ⟨g, 5, none⟩ d5) :=
  ((((((((((((h).setCell (p := ⟨g, 0, none⟩) hg d0)).setCell (p := ⟨g, 1, none⟩) hg d1)).setCell (p := ⟨g, 2, none⟩) hg d2)).setCell (p := ⟨g, 3, none⟩) hg d3)).setCell (p := ⟨g, 4, none⟩) hg d4)).setCell (p := ⟨g, 5, none⟩) hg d5)
theorem fr_i : (Tryz.prog.info? 28).map (·.size) = some 6 := by kernel_rfl
theorem six_B0 (w : World) (v : MsV) : Below w.heap.size w ((w.alloc (msC v)).alloc (.cells #[.int .i64 0, .bool false, .bool false, .bool false, .int .i64 0, .slice none 0 0] 28)) := ((Below.refl _ _).alloc (Nat.le_refl _) _).alloc (by simp) _
theorem six_M0 (w : World) (v : MsV) : MsAt ((w.alloc (msC v)).alloc (.cells #[.int .i64 0, .bool false, .bool false, .bool false, .int .i64 0, .slice none 0 0] 28)) w.heap.size v := (MsAt.box w v).kept (awB1 _ _)
theorem six_S0 (w : World) (v : MsV) : Six ((w.alloc (msC v)).alloc (.cells #[.int .i64 0, .bool false, .bool false, .bool false, .int .i64 0, .slice none 0 0] 28)) (w.heap.size + 1) (.int .i64 0) (.bool false) (.bool false) (.bool false) (.int .i64 0) (.slice none 0 0) := by
  have := heap_alloc_new (w.alloc (msC v)) (.cells #[.int .i64 0, .bool false, .bool false, .bool false, .int .i64 0, .slice none 0 0] 28)
  rw [show (w.alloc (msC v)).heap.size = w.heap.size + 1 by simp] at this
  exact this
theorem fill_any (g : Nat) (lb : Array Value) (eg : ∀ args w, (callFunc g args).run Tryz.prog w = .ok (.enter g args) w) (put : PutF) (Iv : World → List ByteArray → Prop) (bm : Nat) (v : MsV) (n8 : Nat) (w : World) (hM : MsIn w v) (hO : OkM v.m) (hsize : v.m.size = n8)
    (hput : ∀ W used s a c d, Iv W used → s ∈ v.m.sigs → s.nm ∉ used → IsBytes W a n8 c d → Calls Tryz.prog g (#[sgV s, .slice a n8 c] ++ lb) W (PutP (put s d) (fun w' => Iv w' (used ++ [s.nm])) bm n8 W))
    (hIv : ∀ W W' used, Iv W used → Below W.heap.size W W' → Iv W' used) (hmap : ∀ W used, Iv W used → ∃ es cl, W.heap[bm]? = some (.map es cl)) (hI : Iv w []) :
    Calls Tryz.prog 29 #[msV v, .func (.func g) #[] lb] w (FillP (fillE put v.m) (fun w' => Iv w' (usedL put v.m)) bm n8 w) := by
  by_cases h : 0 ≤ v.m.ch
  · exact fill_some g lb eg put Iv bm v n8 w hM hO hsize hput hIv hmap hI h
  · exact fill_none g lb eg put Iv bm v n8 w hM hO hsize hput hIv hmap hI (by omega)
end Bw
end Go.Proofs.YtlnkhlifkooohaaGreatDoor
