/- Lines of one's own in a row, a row of numbers that is stored into, what a step sends: for route.Step. -/
import Derived.Test.YtapjiopnjfldhaaDoorRtStepE
import Derived.Test.YtapjiopnjfldhaaDoorA5
namespace Go.Proofs.YtapjiopnjfldhaaDoor
open Go.ChangeShapes Go.WideShapes Go.ChangeAt Go.RowKit
namespace Bw
open Bm
set_option linter.unusedVariables false
/-- a line as it lies in a row -/
structure LnR where
  tm : Int
  bs : Int
  id : Int
  lo : Bool
  fa : Bool
  re : Bool
  sz : Int
  a : Option Addr
  len : Nat
  cap : Nat
def LnR.cl (v : LnR) : List Value := [.int .i64 v.tm, .int .i64 v.bs, .int .i64 v.id, .bool v.lo, .bool v.fa, .bool v.re, .int .i64 v.sz, .slice v.a v.len v.cap]
def lnsC (l : List LnR) : List Value := l.flatMap LnR.cl
theorem lnsC_add (l : List LnR) (v : LnR) : lnsC (l ++ [v]) = lnsC l ++ v.cl := by unfold lnsC; rw [List.flatMap_append]; simp
theorem info_ln : (Tryd.prog.info? 49).map (fun i => (i.zero, i.size, i.bytes)) = some (some (.agg #[.int .i64 0, .int .i64 0, .int .i64 0, .bool false, .bool false, .bool false, .int .i64 0, .slice none 0 0]), 8, 64) := by kernel_rfl
theorem bytes_grown {w w' : World} {row : Option Nat} {a : Option Addr} {len cap : Nat} {l : List UInt8} (h : IsBytes w a len cap l) (hg : w.grownBy w' row) (hne : 0 < len → ∀ x, a = some x → row ≠ some x.block) : IsBytes w' a len cap l := by
  refine ⟨h.1, h.2.1, h.2.2.1, h.2.2.2.1, fun x hx i hi => ?_⟩
  have hv := h.2.2.2.2 x hx i hi
  have hlt := block_lt_of_cell hv
  have hblk : (x.add i).block = x.block := by unfold Addr.add; split <;> rfl
  unfold World.cell? at hv ⊢
  rw [hg.block _ hlt (by rw [hblk]; exact fun e => hne (by omega) x hx e.symm)]
  exact hv
/-- a row of lines of one's own, each with these bytes, apart from it -/
structure OwnLns (w : World) (base : Nat) (r : Value) (l : List LnR) (dt : List UInt8) : Prop where
  row : w.ownsRow base 49 8 r l.length (lnsC l)
  bytes : ∀ v ∈ l, IsBytes w v.a v.len v.cap dt
  apart : ∀ v ∈ l, 0 < v.len → ∀ x, v.a = some x → r.ownBlock ≠ some x.block
  fresh : ∀ v ∈ l, ∀ x, v.a = some x → base ≤ x.block
theorem OwnLns.nil (w : World) (base : Nat) (dt : List UInt8) : OwnLns w base (.slice none 0 0) [] dt := ⟨World.ownsRow_nil _ _ _ _, (fun v hv => by cases hv), (fun v hv => by cases hv), fun v hv => by cases hv⟩
theorem OwnLns.kept {w w' : World} {base : Nat} {r : Value} {l : List LnR} {dt : List UInt8} (h : OwnLns w base r l dt) (hb : Below w.heap.size w w') : OwnLns w' base r l dt :=
  ⟨ownsRow_below h.row hb, fun v hv => isBytes_below (h.bytes v hv) hb, h.apart, h.fresh⟩
theorem OwnLns.set {w : World} {base : Nat} {r : Value} {l : List LnR} {dt : List UInt8} (h : OwnLns w base r l dt) {p : Addr} (hp : p.block < base) (u : Value) : OwnLns (w.setCell p u) base r l dt :=
  ⟨owns_setB h.row hp u, fun v hv => bytes_grown (h.bytes v hv) (grown_set w p u) (fun _ x hx e => by have h1 := h.fresh v hv x hx; have h2 := Option.some.inj e; omega), h.apart, h.fresh⟩
theorem OwnLns.add {w w' : World} {base : Nat} {r r' : Value} {l : List LnR} {v : LnR} {dt : List UInt8} (h : OwnLns w base r l dt) (hv : IsBytes w v.a v.len v.cap dt)
    (hva : ∀ x, v.a = some x → r.ownBlock ≠ some x.block) (hvf : ∀ x, v.a = some x → base ≤ x.block) (hrow : w'.ownsRow base 49 8 r' (l.length + 1) (lnsC l ++ v.cl)) (hg : w.grownBy w' r.ownBlock) (hb : r'.ownBlock = r.ownBlock ∨ r'.ownBlock = some w.heap.size) : OwnLns w' base r' (l ++ [v]) dt := by
  have hall : ∀ u ∈ l ++ [v], IsBytes w u.a u.len u.cap dt ∧ (0 < u.len → ∀ x, u.a = some x → r.ownBlock ≠ some x.block) := by
    intro u hu
    rcases List.mem_append.1 hu with hu | hu
    · exact ⟨h.bytes u hu, h.apart u hu⟩
    · rw [List.mem_singleton] at hu; subst hu; exact ⟨hv, fun _ => hva⟩
  refine ⟨?_, fun u hu => bytes_grown (hall u hu).1 hg (hall u hu).2, ?_, ?_⟩
  · rw [lnsC_add, List.length_append]; exact hrow
  · intro u hu hl x hx
    rcases hb with hb | hb
    · rw [hb]; exact (hall u hu).2 hl x hx
    · rw [hb]
      intro e
      have e' := Option.some.inj e
      have hlt2 := block_lt_of_cell ((hall u hu).1.2.2.2.2 x hx 0 hl)
      have hblk : (x.add 0).block = x.block := by unfold Addr.add; split <;> rfl
      rw [hblk] at hlt2
      omega
  · intro u hu x hx
    rcases List.mem_append.1 hu with hu | hu
    · exact h.fresh u hu x hx
    · rw [List.mem_singleton] at hu; subst hu; exact hvf x hx
/-- a row of numbers that is stored into: at some block, or nowhere if there are none -/
def LstAt (w : World) (b : Option Addr) (n : Nat) (L : List Int) : Prop := L.length = n ∧ (n = 0 ∨ ∃ g cur, b = some ⟨g, 0, none⟩ ∧ w.heap[g]? = some (.cells cur 3 (0, 0)) ∧ ∀ j, j < n → cur[j]? = some (.int .i64 (L.getD j 0)))
theorem LstAt.of_own {w : World} {base : Nat} {b : Option Addr} {n d : Nat} {l : List Int} (h : w.ownsRow base 3 1 (.slice b n d) n (numC l)) : LstAt w b n l := by
  have hl : l.length = n := by have := h.1; simpa [numC] using this
  refine ⟨hl, ?_⟩
  rcases h.2 with ⟨h1, h2⟩ | ⟨g, cap, cur, h1, hg, hh, hc, hm, hsz, htk⟩
  · exact .inl h2
  · cases h1
    refine .inr ⟨g, cur, rfl, hh, fun j hj => ?_⟩
    have hx := h.cells (g := g) rfl j (.int .i64 (l.getD j 0)) (by simp [numC, List.getD, hl, hj])
    rw [Addr.add_lit, Nat.zero_add, cell_of_row _ _ j _ _ _ hh] at hx
    exact hx
theorem LstAt.kept {w w' : World} {b : Option Addr} {n : Nat} {L : List Int} (h : LstAt w b n L) (hb : Below w.heap.size w w') : LstAt w' b n L := by
  refine ⟨h.1, ?_⟩
  rcases h.2 with h0 | ⟨g, cur, rfl, hh, hc⟩
  · exact .inl h0
  · exact .inr ⟨g, cur, rfl, (hb.block g (Array.getElem?_eq_some_iff.1 hh).1).trans hh, hc⟩
theorem LstAt.grown {w w' : World} {b : Option Addr} {n : Nat} {L : List Int} (h : LstAt w b n L) {row : Option Nat} (hb : w.grownBy w' row) (hr : ∀ x, b = some x → row ≠ some x.block) : LstAt w' b n L := by
  refine ⟨h.1, ?_⟩
  rcases h.2 with h0 | ⟨g, cur, rfl, hh, hc⟩
  · exact .inl h0
  · exact .inr ⟨g, cur, rfl, (hb.block g (Array.getElem?_eq_some_iff.1 hh).1 (fun e => hr _ rfl e.symm)).trans hh, hc⟩
theorem LstAt.set {w : World} {g n : Nat} {L : List Int} (h : LstAt w (some ⟨g, 0, none⟩) n L) {i : Nat} (hi : i < n) (v : Int) : LstAt (w.setCell ⟨g, i, none⟩ (.int .i64 v)) (some ⟨g, 0, none⟩) n (L.set i v) := by
  refine ⟨by rw [List.length_set]; exact h.1, ?_⟩
  rcases h.2 with h0 | ⟨g', cur, hb, hh, hc⟩
  · omega
  · cases hb
    refine .inr ⟨g, cur.setIfInBounds i (.int .i64 v), rfl, heap_setCell_same _ g i _ _ _ hh, fun j hj => ?_⟩
    have hl := h.1
    have hcs : ∀ q, q < n → q < cur.size := fun q hq => by
      have := hc q hq
      exact (Array.getElem?_eq_some_iff.1 this).1
    by_cases e : i = j
    · subst e
      rw [Array.getElem?_setIfInBounds_self_of_lt (hcs i hi)]
      simp [List.getD, hl, hi]
    · rw [Array.getElem?_setIfInBounds_ne e, hc j hj]
      simp [List.getD, e]
theorem LstAt.cell {w : World} {g n : Nat} {L : List Int} (h : LstAt w (some ⟨g, 0, none⟩) n L) {i : Nat} (hi : i < n) : w.cell? ⟨g, i, none⟩ = some (.int .i64 (L.getD i 0)) ∧ w.frozen? ⟨g, i, none⟩ = false ∧ g < w.heap.size := by
  rcases h.2 with h0 | ⟨g', cur, hb, hh, hc⟩
  · omega
  · cases hb
    exact ⟨by rw [cell_of_row _ _ i _ _ _ hh]; exact hc i hi, frozen_of_row _ _ i _ _ hh, (Array.getElem?_eq_some_iff.1 hh).1⟩
theorem LstAt.nums {w : World} {b : Option Addr} {n d : Nat} {L : List Int} (h : LstAt w b n L) (hd : n ≤ d) (hm : d ≤ maxLen) : IsNums w b n d L := by
  refine ⟨h.1, hd, hm, ?_, ?_⟩
  · intro e
    rcases h.2 with h0 | ⟨g, cur, hb, _⟩
    · exact h0
    · rw [e] at hb; cases hb
  · intro x hx i hi
    rcases h.2 with h0 | ⟨g, cur, hb, hh, hc⟩
    · omega
    · rw [hb] at hx; cases hx
      rw [Addr.add_lit, Nat.zero_add, cell_of_row _ _ i _ _ _ hh]
      exact hc i hi
/-- what a route carries -/
def carB (r : Rt) (bus : Int) (id : Nat) (lo fa re : Bool) (sz : Int) (len : Nat) : Bool := (r.fr == bus) && hitN r.f.n lo id && (frEn (id + r.add) lo fa re sz len == 0)
def sndB (r : Rt) (t time bus : Int) (id : Nat) (lo fa re : Bool) (sz : Int) (len : Nat) : Bool := carB r bus id lo fa re sz len && !soonB r t time
/-- Last behind k routes, and what has been sent -/
def newL (rs : List Rt) (ts : List Int) (time bus : Int) (id : Nat) (lo fa re : Bool) (sz : Int) (len : Nat) : Nat → List Int
  | 0 => ts
  | k + 1 => if sndB (rs.getD k noR) (ts.getD k 0) time bus id lo fa re sz len = true then (newL rs ts time bus id lo fa re sz len k).set k time else newL rs ts time bus id lo fa re sz len k
def sntL (rs : List Rt) (ts : List Int) (time bus : Int) (id : Nat) (lo fa re : Bool) (sz : Int) (len : Nat) : Nat → List (Int × Int)
  | 0 => []
  | k + 1 => sntL rs ts time bus id lo fa re sz len k ++ (if sndB (rs.getD k noR) (ts.getD k 0) time bus id lo fa re sz len = true then [((rs.getD k noR).tb, (id : Int) + (rs.getD k noR).add)] else [])
theorem fl_fn {f : Fl} (h : okFl f = true) : f.n.f = f ∧ okN f.n := by
  obtain ⟨w, m, lo⟩ := f
  unfold okFl at h
  simp only [decide_eq_true_eq] at h
  refine ⟨?_, ?_⟩
  · unfold Fl.n Fn.f
    simp only
    congr 1 <;> omega
  · exact ⟨show w.toNat ≤ topN lo by omega, show m.toNat ≤ topN lo by omega⟩
/-- a line as the step sends it -/
def LnR.k (v : LnR) : Int × Int × Int × Bool × Bool × Bool × Int × Nat := (v.tm, v.bs, v.id, v.lo, v.fa, v.re, v.sz, v.len)
def lnK (time : Int) (lo fa re : Bool) (sz : Int) (len : Nat) (p : Int × Int) : Int × Int × Int × Bool × Bool × Bool × Int × Nat := (time, p.1, p.2, lo, fa, re, sz, len)
theorem carry_any (r : Rt) (bus : Int) (id : Nat) (lo fa re : Bool) (sz : Int) (a : Option Addr) (len cap : Nat) (w : World) (hok : okFl r.f = true) (had : addB r = true) (hL : LastsAt w) (hS : SizesAt w) (hlen : len ≤ maxLen) (hG : frEn id lo fa re sz len = 0) (hid : id ≤ topN lo) :
    Calls Tryd.prog 30 #[r.val, .int .i64 bus, frameV id lo fa re sz a len cap] w fun e w' => (∃ i' l' f' r' s' a' n' c', e = .returned (.tuple #[frameV i' l' f' r' s' a' n' c', .bool (carB r bus id lo fa re sz len)]) ∧ (carB r bus id lo fa re sz len = true → i' = (id : Int) + r.add ∧ l' = lo ∧ f' = fa ∧ r' = re ∧ s' = sz ∧ a' = a ∧ n' = len ∧ c' = cap)) ∧ Below w.heap.size w w' := by
  obtain ⟨hf, hokn⟩ := fl_fn hok
  unfold addB at had
  simp only [decide_eq_true_eq] at had
  by_cases h1 : r.fr = bus
  · obtain ⟨fr, tb, f, add, ev⟩ := r
    simp only at h1 hf hokn had
    subst h1
    by_cases h2 : hitN f.n lo id = true
    · have := carry_hit fr tb add ev f.n id lo fa re sz a len cap w hokn hL hS hlen hG hid h2 had.1 had.2
      rw [hf] at this
      refine this.mono ?_
      rintro e w' ⟨rfl, hb⟩
      have hc : carB ⟨fr, tb, f, add, ev⟩ fr id lo fa re sz len = (frEn (id + add) lo fa re sz len == 0) := by unfold carB; simp [h2]
      rw [hc]
      exact ⟨⟨_, _, _, _, _, _, _, _, rfl, fun _ => ⟨rfl, rfl, rfl, rfl, rfl, rfl, rfl, rfl⟩⟩, hb⟩
    · have := carry_nohit fr tb add ev f.n id lo fa re sz a len cap w hokn hL hS hlen hG hid h2
      rw [hf] at this
      refine this.mono ?_
      rintro e w' ⟨rfl, hb⟩
      have hc : carB ⟨fr, tb, f, add, ev⟩ fr id lo fa re sz len = false := by unfold carB; simp [h2]
      rw [hc]
      exact ⟨⟨_, _, _, _, _, _, _, _, rfl, fun h => by cases h⟩, hb⟩
  · refine (carry_from r bus id lo fa re sz a len cap w (by simpa using h1)).mono ?_
    rintro e w' ⟨rfl, hb⟩
    have hc : carB r bus id lo fa re sz len = false := by unfold carB; simp [h1]
    rw [hc]
    exact ⟨⟨_, _, _, _, _, _, _, _, rfl, fun h => by cases h⟩, hb⟩
end Bw
end Go.Proofs.YtapjiopnjfldhaaDoor
