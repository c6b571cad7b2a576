/- Routes and numbers that lie in rows; what is wrong with a gateway. -/
import Derived.Test.YtapjiopnjfldhaaDoorFilIn
namespace Go.Proofs.YtapjiopnjfldhaaDoor
open Go.ChangeShapes Go.WideShapes Go.ChangeAt Go.RowKit
namespace Bw
/-- a route as it came -/
structure Rt where
  fr : Int
  tb : Int
  f : Fl
  add : Int
  ev : Int
def noR : Rt := ⟨0, 0, noF, 0, 0⟩
def Rt.val (r : Rt) : Value := .agg #[.int .i64 r.fr, .int .i64 r.tb, .int .i64 r.f.w, .int .i64 r.f.m, .bool r.f.lo, .int .i64 r.add, .int .i64 r.ev]
def rtC (r : Rt) : Obj := .cells #[.int .i64 r.fr, .int .i64 r.tb, .int .i64 r.f.w, .int .i64 r.f.m, .bool r.f.lo, .int .i64 r.add, .int .i64 r.ev] 45
/-- a route's cells from an address on -/
structure RtOn (w : World) (y : Addr) (r : Rt) : Prop where
  c0 : w.cell? y = some (.int .i64 r.fr)
  c1 : w.cell? ⟨y.block, y.off + 1, none⟩ = some (.int .i64 r.tb)
  c2 : w.cell? ⟨y.block, y.off + 2, none⟩ = some (.int .i64 r.f.w)
  c3 : w.cell? ⟨y.block, y.off + 3, none⟩ = some (.int .i64 r.f.m)
  c4 : w.cell? ⟨y.block, y.off + 4, none⟩ = some (.bool r.f.lo)
  c5 : w.cell? ⟨y.block, y.off + 5, none⟩ = some (.int .i64 r.add)
  c6 : w.cell? ⟨y.block, y.off + 6, none⟩ = some (.int .i64 r.ev)
theorem RtOn.kept {w w' : World} {y : Addr} {r : Rt} (h : RtOn w y r) (hb : Below w.heap.size w w') : RtOn w' y r :=
  ⟨cell_kept hb h.c0, cell_kept hb h.c1, cell_kept hb h.c2, cell_kept hb h.c3, cell_kept hb h.c4, cell_kept hb h.c5, cell_kept hb h.c6⟩
/-- a route's own variable -/
structure RtAt (w : World) (g : Nat) (r : Rt) : Prop where
  c0 : w.cell? ⟨g, 0, none⟩ = some (.int .i64 r.fr)
  c1 : w.cell? ⟨g, 1, none⟩ = some (.int .i64 r.tb)
  c2 : w.cell? ⟨g, 2, none⟩ = some (.int .i64 r.f.w)
  c3 : w.cell? ⟨g, 3, none⟩ = some (.int .i64 r.f.m)
  c4 : w.cell? ⟨g, 4, none⟩ = some (.bool r.f.lo)
  c5 : w.cell? ⟨g, 5, none⟩ = some (.int .i64 r.add)
  c6 : w.cell? ⟨g, 6, none⟩ = some (.int .i64 r.ev)
theorem RtAt.kept {w w' : World} {g : Nat} {r : Rt} (h : RtAt w g r) (hb : Below w.heap.size w w') : RtAt w' g r :=
  ⟨cell_kept hb h.c0, cell_kept hb h.c1, cell_kept hb h.c2, cell_kept hb h.c3, cell_kept hb h.c4, cell_kept hb h.c5, cell_kept hb h.c6⟩
theorem RtAt.new (w : World) (r : Rt) : RtAt (w.alloc (rtC r)) w.heap.size r := by
  have h := heap_alloc_new w (rtC r)
  unfold rtC at h ⊢
  exact ⟨cell_of_row _ _ 0 _ _ _ h, cell_of_row _ _ 1 _ _ _ h, cell_of_row _ _ 2 _ _ _ h, cell_of_row _ _ 3 _ _ _ h, cell_of_row _ _ 4 _ _ _ h, cell_of_row _ _ 5 _ _ _ h, cell_of_row _ _ 6 _ _ _ h⟩
/-- routes in a row -/
structure IsRts (w : World) (a : Option Addr) (n cap : Nat) (l : List Rt) : Prop where
  len : l.length = n
  le : n ≤ cap
  max : cap ≤ maxLen
  none : a = none → n = 0
  cell : ∀ x, a = some x → ∀ i, i < n → RtOn w (x.add (i * 7)) (l.getD i noR)
theorem IsRts.kept {w w' : World} {a : Option Addr} {n cap : Nat} {l : List Rt} (h : IsRts w a n cap l) (hb : Below w.heap.size w w') : IsRts w' a n cap l :=
  ⟨h.len, h.le, h.max, h.none, fun x hx i hi => (h.cell x hx i hi).kept hb⟩
theorem IsRts.some {w : World} {a : Option Addr} {n cap : Nat} {l : List Rt} (h : IsRts w a n cap l) {i : Nat} (hi : i < n) : ∃ x, a = some x := by
  cases a with
  | none => exact absurd (h.none rfl) (by omega)
  | some x => exact ⟨x, rfl⟩
/-- numbers in a row -/
structure IsNums (w : World) (a : Option Addr) (n cap : Nat) (l : List Int) : Prop where
  len : l.length = n
  le : n ≤ cap
  max : cap ≤ maxLen
  none : a = none → n = 0
  cell : ∀ x, a = some x → ∀ i, i < n → w.cell? (x.add i) = some (.int .i64 (l.getD i 0))
theorem IsNums.kept {w w' : World} {a : Option Addr} {n cap : Nat} {l : List Int} (h : IsNums w a n cap l) (hb : Below w.heap.size w w') : IsNums w' a n cap l :=
  ⟨h.len, h.le, h.max, h.none, fun x hx i hi => cell_kept hb (h.cell x hx i hi)⟩
theorem IsNums.some {w : World} {a : Option Addr} {n cap : Nat} {l : List Int} (h : IsNums w a n cap l) {i : Nat} (hi : i < n) : ∃ x, a = some x := by
  cases a with
  | none => exact absurd (h.none rfl) (by omega)
  | some x => exact ⟨x, rfl⟩
/-- a gateway -/
def gaV (a : Option Addr) (n c : Nat) (b : Option Addr) (m d : Nat) : Value := .agg #[.slice a n c, .slice b m d]
def gaC (a : Option Addr) (n c : Nat) (b : Option Addr) (m d : Nat) : Obj := .cells #[.slice a n c, .slice b m d] 25
/-- a gateway's variable -/
def GaAt (w : World) (g : Nat) (a : Option Addr) (n c : Nat) (b : Option Addr) (m d : Nat) : Prop := w.heap[g]? = some (.cells #[.slice a n c, .slice b m d] 25 (0, 0))
theorem GaAt.lt {w : World} {g : Nat} {a : Option Addr} {n c : Nat} {b : Option Addr} {m d : Nat} (h : GaAt w g a n c b m d) : g < w.heap.size := (Array.getElem?_eq_some_iff.1 h).1
theorem GaAt.kept {w w' : World} {g : Nat} {a : Option Addr} {n c : Nat} {b : Option Addr} {m d : Nat} (h : GaAt w g a n c b m d) (hb : Below w.heap.size w w') : GaAt w' g a n c b m d := by unfold GaAt; rw [hb.block g h.lt]; exact h
theorem GaAt.new (w : World) (a : Option Addr) (n c : Nat) (b : Option Addr) (m d : Nat) : GaAt (w.alloc (gaC a n c b m d)) w.heap.size a n c b m d := heap_alloc_new w _
theorem GaAt.cells {w : World} {g : Nat} {a : Option Addr} {n c : Nat} {b : Option Addr} {m d : Nat} (h : GaAt w g a n c b m d) : w.cell? ⟨g, 0, none⟩ = some (.slice a n c) ∧ w.cell? ⟨g, 1, none⟩ = some (.slice b m d) := ⟨cell_of_row _ _ 0 _ _ _ h, cell_of_row _ _ 1 _ _ _ h⟩
/-- may a route be, with its Last -/
def busB (n : Int) : Bool := decide (0 ≤ n ∧ n < 4)
def timB (n : Int) : Bool := decide (0 ≤ n ∧ n ≤ 1000000)
def fitR (r : Rt) (t : Int) : Bool := decide ((0 ≤ r.fr ∧ r.fr < 4) ∧ (0 ≤ r.tb ∧ r.tb < 4) ∧ r.fr ≠ r.tb ∧ (0 ≤ r.ev ∧ r.ev ≤ 1000000) ∧ (-1 ≤ t ∧ t ≤ 1000000))
def addB (r : Rt) : Bool := decide (-536870911 ≤ r.add ∧ r.add ≤ 536870911)
def okR (r : Rt) (t : Int) : Bool := fitR r t && okFl r.f && addB r
def rtE (r : Rt) (t : Int) : Int := if okR r t = true then 0 else 3
/-- what is wrong with a gateway -/
def allR (rs : List Rt) (ts : List Int) : Bool := (List.range rs.length).all fun j => okR (rs.getD j noR) (ts.getD j 0)
def chkG (rs : List Rt) (ts : List Int) : Int := if 20 < rs.length then 2 else if ts.length ≠ rs.length then 4 else if allR rs ts = true then 0 else 3
theorem allR_yes {rs : List Rt} {ts : List Int} (h : ∀ j, j < rs.length → okR (rs.getD j noR) (ts.getD j 0) = true) : allR rs ts = true := by
  unfold allR
  rw [List.all_eq_true]
  intro j hj
  exact h j (List.mem_range.1 hj)
theorem allR_no {rs : List Rt} {ts : List Int} {j : Nat} (hj : j < rs.length) (h : okR (rs.getD j noR) (ts.getD j 0) = false) : allR rs ts = false := by
  unfold allR
  rw [List.all_eq_false]
  exact ⟨j, List.mem_range.2 hj, by rw [h]; simp⟩
theorem allR_at {rs : List Rt} {ts : List Int} (h : allR rs ts = true) {j : Nat} (hj : j < rs.length) : okR (rs.getD j noR) (ts.getD j 0) = true := by
  unfold allR at h
  rw [List.all_eq_true] at h
  exact h j (List.mem_range.2 hj)
/-- one filter -/
theorem fils_one (w : World) (f : Fl) : IsFils (w.alloc (.cells #[.int .i64 f.w, .int .i64 f.m, .bool f.lo] 43)) (some ⟨w.heap.size, 0, none⟩) 1 1 [f] := by
  have h := heap_alloc_new w (.cells #[.int .i64 f.w, .int .i64 f.m, .bool f.lo] 43)
  refine ⟨rfl, Nat.le_refl _, by unfold maxLen; omega, (fun e => by cases e), fun x hx i hi => ?_⟩
  cases hx
  obtain rfl : i = 0 := by omega
  exact ⟨cell_of_row _ _ 0 _ _ _ h, cell_of_row _ _ 1 _ _ _ h, cell_of_row _ _ 2 _ _ _ h⟩
theorem chk_one (f : Fl) : chkFl [f] = if okFl f = true then 0 else 3 := by
  unfold chkFl badFl
  cases h : okFl f <;> simp [h]
end Bw
end Go.Proofs.YtapjiopnjfldhaaDoor
