/- A queue's line as it lies in memory: thirty-two entries and a size; how parts of it are read and stored. None walks a function. -/
import Derived.Test.YthdffdobkampaaaDoorFramesOpen
import Derived.Test.YthdffdobkampaaaDoorTchKit
import Derived.Deep.MidRow
import Derived.Laws.CopyRow
namespace Go.Proofs.YthdffdobkampaaaDoor
open Go.ChangeShapes Go.WideShapes Go.ChangeAt Go.RowKit
namespace Bw
/-- an entry: a name, a frame -/
structure Ent where
  name : List UInt8
  v : FrV
def Ent.cells (x : Ent) : List Value := .string ⟨x.name.toArray⟩ :: x.v.cells
def zV : FrV := ⟨⟨0, false, false, false, 0, []⟩, none, 0, 0⟩
def zE : Ent := ⟨[], zV⟩
def enC (A : List Ent) : List Value := A.flatMap Ent.cells
def lnC (A : List Ent) (n : Int) : List Value := enC A ++ [.int .i64 n]
theorem ent_len (x : Ent) : x.cells.length = 7 := rfl
theorem enC_len (A : List Ent) : (enC A).length = A.length * 7 := by
  induction A with
  | nil => rfl
  | cons x A ih => rw [enC, List.flatMap_cons, List.length_append]; show 7 + (enC A).length = _; rw [ih, List.length_cons]; omega
theorem lnC_len (A : List Ent) (n : Int) : (lnC A n).length = A.length * 7 + 1 := by unfold lnC; rw [List.length_append, enC_len]; rfl
theorem enC_split (A : List Ent) : ∀ i (h : i < A.length), enC A = enC (A.take i) ++ (A[i].cells ++ enC (A.drop (i + 1))) := by
  induction A with
  | nil => intro i h; exact absurd h (Nat.not_lt_zero _)
  | cons x A ih =>
    intro i h
    cases i with
    | zero => rfl
    | succ i =>
      have h' : i < A.length := by simpa using h
      have e : enC (x :: A) = x.cells ++ enC A := rfl
      have e1 : enC ((x :: A).take (i + 1)) = x.cells ++ enC (A.take i) := rfl
      rw [e, e1, List.append_assoc, List.getElem_cons_succ, List.drop_succ_cons, ← ih i h']
theorem enC_take_len (A : List Ent) (i : Nat) (h : i ≤ A.length) : (enC (A.take i)).length = i * 7 := by rw [enC_len, List.length_take, Nat.min_eq_left h]
theorem lnC_at (A : List Ent) (n : Int) (i k : Nat) (h : i < A.length) (hk : k < 7) : (lnC A n)[i * 7 + k]? = (A[i].cells)[k]? := by
  have ht := enC_take_len A i (by omega)
  unfold lnC
  rw [enC_split A i h, List.append_assoc, List.getElem?_append_right (by omega), ht, show i * 7 + k - i * 7 = k by omega, List.append_assoc, List.getElem?_append_left (by rw [ent_len]; omega)]
theorem lnC_size (A : List Ent) (n : Int) : (lnC A n)[A.length * 7]? = some (.int .i64 n) := by
  unfold lnC
  rw [List.getElem?_append_right (by rw [enC_len]; omega), enC_len, Nat.sub_self]
  rfl
theorem lnC_set (A : List Ent) (n : Int) (i : Nat) (x : Ent) (h : i < A.length) : (lnC A n).take (i * 7) ++ x.cells ++ (lnC A n).drop (i * 7 + 7) = lnC (A.set i x) n := by
  have ht := enC_take_len A i (by omega)
  have h1 : (lnC A n).take (i * 7) = enC (A.take i) := by
    unfold lnC
    rw [enC_split A i h, List.append_assoc, List.take_append_of_le_length (by omega), List.take_of_length_le (by omega)]
  have h2 : (lnC A n).drop (i * 7 + 7) = enC (A.drop (i + 1)) ++ [.int .i64 n] := by
    have e : lnC A n = (enC (A.take i) ++ A[i].cells) ++ (enC (A.drop (i + 1)) ++ [.int .i64 n]) := by unfold lnC; rw [enC_split A i h]; simp only [List.append_assoc]
    rw [e]
    exact List.drop_left' (by rw [List.length_append, ht, ent_len])
  rw [h1, h2]
  unfold lnC
  rw [enC_split (A.set i x) i (by simpa using h), List.getElem_set_self, List.take_set_of_le (Nat.le_refl _), List.drop_set_of_lt (by omega)]
  simp only [List.append_assoc]
theorem lnC_setSize (A : List Ent) (n m : Int) : (lnC A n).set (A.length * 7) (.int .i64 m) = lnC A m := by
  unfold lnC
  rw [List.set_append_right _ _ (by rw [enC_len]; omega), enC_len, Nat.sub_self]
  rfl
theorem ent_one (x : Ent) : ∀ u ∈ x.cells, u.oneCell' = true := by
  intro u hu
  unfold Ent.cells FrV.cells at hu
  simp only [List.mem_cons, List.not_mem_nil, or_false] at hu
  rcases hu with rfl | rfl | rfl | rfl | rfl | rfl | rfl <;> rfl
theorem lnC_one (A : List Ent) (n : Int) : ∀ u ∈ lnC A n, u.oneCell' = true := by
  intro u hu
  rcases List.mem_append.1 hu with hu | hu
  · obtain ⟨x, _, hx⟩ := List.mem_flatMap.1 hu
    exact ent_one x u hx
  · rw [List.mem_singleton] at hu; subst hu; rfl
/-- a line that lies in block b -/
structure LnAt (w : World) (b : Nat) (A : List Ent) (n : Int) : Prop where
  len : A.length = 32
  row : w.heap[b]? = some (.cells (lnC A n).toArray 55 (0, 0))
theorem LnAt.lt {w : World} {b : Nat} {A : List Ent} {n : Int} (h : LnAt w b A n) : b < w.heap.size := (Array.getElem?_eq_some_iff.1 h.row).1
theorem LnAt.kept {w w' : World} {b : Nat} {A : List Ent} {n : Int} (h : LnAt w b A n) (hb : Below w.heap.size w w') : LnAt w' b A n := ⟨h.len, by rw [hb.block b h.lt]; exact h.row⟩
theorem LnAt.tch {gs : List Nat} {w w' : World} {b : Nat} {A : List Ent} {n : Int} (h : LnAt w b A n) (ht : Tch gs w w') (hb : b ∉ gs) : LnAt w' b A n := ⟨h.len, by rw [ht.block b h.lt hb]; exact h.row⟩
theorem LnAt.drewN {w : World} {b : Nat} {A : List Ent} {n : Int} (h : LnAt w b A n) (q : Nat) : LnAt (w.drewN q) b A n := ⟨h.len, h.row⟩
theorem LnAt.cell {w : World} {b : Nat} {A : List Ent} {n : Int} (h : LnAt w b A n) (i k : Nat) (hi : i < 32) (hk : k < 7) : w.cell? ⟨b, i * 7 + k, none⟩ = ((A[i]'(by have := h.len; omega)).cells)[k]? := by
  rw [cell_of_row w b _ _ _ _ h.row, List.getElem?_toArray, lnC_at A n i k (by have := h.len; omega) hk]
theorem LnAt.size {w : World} {b : Nat} {A : List Ent} {n : Int} (h : LnAt w b A n) : w.cell? ⟨b, 224, none⟩ = some (.int .i64 n) := by
  rw [cell_of_row w b _ _ _ _ h.row, List.getElem?_toArray]
  have := lnC_size A n
  rw [h.len] at this
  exact this
set_option maxRecDepth 10000 in
theorem line_info : (Tryd.prog.info? 55).map (·.size) = some 225 := by kernel_rfl
theorem ent_info : (Tryd.prog.info? 52).map (·.size) = some 7 := by kernel_rfl
theorem fr_info : (Tryd.prog.info? 25).map (·.size) = some 6 := by kernel_rfl
set_option maxRecDepth 10000 in
theorem line_zero : (Tryd.prog.info? 55).map (fun i => (i.zero, i.size)) = some (some (.agg (lnC (List.replicate 32 zE) 0).toArray), 225) := by kernel_rfl
def lnO (A : List Ent) (n : Int) : Obj := .cells (lnC A n).toArray 55
theorem LnAt.new (w : World) (A : List Ent) (n : Int) (h : A.length = 32) : LnAt (w.alloc (lnO A n)) w.heap.size A n := ⟨h, heap_alloc_new w _⟩
theorem tch_row {w : World} {b : Nat} (c : Array Value) : Tch [b] w (w.setRow b c) :=
  ⟨rfl, rfl, rfl, by simp, fun k _ hk => setRow_other w b k c (fun e => hk (by simp [e]))⟩
theorem zero_line : Tryd.zeroCells55 = (lnC (List.replicate 32 zE) 0).toArray := by kernel_rfl
theorem lnC_arr (A : List Ent) (n : Int) (h : A.length = 32) : (lnC A n).toArray.size = 225 := by rw [List.size_toArray, lnC_len, h]
section
variable {ops : Array Oper} {rest : List Oper} {dst : Option Tmp} {ty : TypeId} {pos : String} {aft : Array Edge} {a : Act} {w : World} {Q : Exit → Act → World → Prop}
/-- an entry of a line is read -/
theorem wpl_load_ent (x : Operand) (b o i : Nat) (A : List Ent) (n : Int) (hx : a.eval x = .pointer (some ⟨b, o, none⟩)) (hL : LnAt w b A n) (ho : o = i * 7) (hi : i < A.length)
    (h : wpList Tryd.prog ops Q rest (a.put dst (.agg (A[i]).cells.toArray)) w) :
    wpList Tryd.prog ops Q (Oper.mk dst (.load 52 x) ty pos aft none :: rest) a w := by
  subst ho
  exact wpList_load_mid rfl 52 x rfl b (i * 7) hx (A[i]).cells _ (fun j v hv => by
    have hj : j < 7 := (List.getElem?_eq_some_iff.1 hv).1
    have := hL.cell i j (by have := hL.len; omega) hj
    rw [this]; exact hv) Tryd.underlying52 rfl ent_info h
/-- a frame of a line is read -/
theorem wpl_load_fr (x : Operand) (b o i : Nat) (A : List Ent) (n : Int) (hx : a.eval x = .pointer (some ⟨b, o, none⟩)) (hL : LnAt w b A n) (ho : o = i * 7 + 1) (hi : i < A.length)
    (h : wpList Tryd.prog ops Q rest (a.put dst (.agg (A[i]).v.cells.toArray)) w) :
    wpList Tryd.prog ops Q (Oper.mk dst (.load 25 x) ty pos aft none :: rest) a w := by
  subst ho
  exact wpList_load_mid rfl 25 x rfl b (i * 7 + 1) hx (A[i]).v.cells _ (fun j v hv => by
    have hj : j < 6 := (List.getElem?_eq_some_iff.1 hv).1
    have := hL.cell i (j + 1) (by have := hL.len; omega) (by omega)
    rw [show i * 7 + 1 + j = i * 7 + (j + 1) by omega, this]; exact hv) Tryd.underlying25 rfl fr_info h
/-- the whole line is read -/
theorem wpl_load_line (x : Operand) (b : Nat) (A : List Ent) (n : Int) (hx : a.eval x = .pointer (some ⟨b, 0, none⟩)) (hL : LnAt w b A n)
    (h : wpList Tryd.prog ops Q rest (a.put dst (.agg (lnC A n).toArray)) w) :
    wpList Tryd.prog ops Q (Oper.mk dst (.load 55 x) ty pos aft none :: rest) a w :=
  wpList_load_mid rfl 55 x rfl b 0 hx (lnC A n) _ (fun j v hv => by
    rw [Nat.zero_add, cell_of_row w b _ _ _ _ hL.row, List.getElem?_toArray]; exact hv) Tryd.underlying55 rfl (by rw [line_info, lnC_len, hL.len]) h
theorem set_row {b o : Nat} {C : Array Value} {t : TypeId} {vs : List Value} (hb : w.heap[b]? = some (.cells C t (0, 0))) (hl : o + vs.length ≤ C.size) (h1 : ∀ v ∈ vs, v.oneCell' = true) :
    w.setCells b o vs = w.setRow b (C.toList.take o ++ vs ++ C.toList.drop (o + vs.length)).toArray := by
  have e1 := run_storeCells_at Tryd.prog b o t vs 0 C w hb (by omega) h1
  have e2 := run_storeCells_cells (P := Tryd.prog) b o vs 0 w (fun j hj => by rw [cell_of_row w b _ _ _ _ hb]; simp; omega) (fun j hj => frozen_of_row w b _ _ _ hb) h1
  rw [e1] at e2
  simp only [Nat.add_zero] at e2
  injection e2 with _ e3
  exact e3.symm
/-- an entry is stored into a line -/
theorem wpl_store_ent (x y : Operand) (b o i : Nat) (A : List Ent) (n : Int) (e : Ent) (hx : a.eval x = .pointer (some ⟨b, o, none⟩)) (hy : a.eval y = .agg e.cells.toArray) (hL : LnAt w b A n) (ho : o = i * 7) (hi : i < A.length)
    (h : ∀ w', LnAt w' b (A.set i e) n → Tch [b] w w' → wpList Tryd.prog ops Q rest (a.put dst undef) w') :
    wpList Tryd.prog ops Q (Oper.mk dst (.store 52 x y) ty pos aft none :: rest) a w := by
  subst ho
  have hlen : e.cells.length = 7 := rfl
  have hsz := lnC_arr A n hL.len
  have h32 := hL.len
  have hset := set_row (o := i * 7) hL.row (by rw [hlen, hsz]; omega) (ent_one e)
  rw [hlen, lnC_set A n i e hi] at hset
  refine wpList_store_mid rfl 52 x y rfl b (i * 7) e.cells.toArray hx hy (fun j hj => ⟨?_, frozen_of_row w b _ _ _ hL.row⟩) ent_info (all_oneCell_toArray (ent_one e)) ?_
  · have hj' : j < 7 := hj
    rw [cell_of_row w b _ _ _ _ hL.row]; rw [Array.getElem?_eq_getElem (by rw [hsz]; omega)]; rfl
  · rw [hset]
    exact h _ ⟨by rw [List.length_set]; exact h32, setRow_heap w b _ _ _ _ hL.row⟩ (tch_row _)
theorem LnAt.setSize {b : Nat} {A : List Ent} {n : Int} (hL : LnAt w b A n) (m : Int) : LnAt (w.setCell ⟨b, 224, none⟩ (.int .i64 m)) b A m := by
  refine ⟨hL.len, ?_⟩
  rw [heap_setCell_same w b 224 _ _ (.int .i64 m) hL.row]
  have := lnC_setSize A n m
  rw [hL.len] at this
  rw [List.setIfInBounds_toArray, this]
theorem LnAt.frozen {b : Nat} {A : List Ent} {n : Int} (hL : LnAt w b A n) (k : Nat) : w.frozen? ⟨b, k, none⟩ = false := frozen_of_row w b k _ _ hL.row
/-- a whole line is stored -/
theorem wpl_store_line (x y : Operand) (b : Nat) (A B : List Ent) (n m : Int) (hx : a.eval x = .pointer (some ⟨b, 0, none⟩)) (hy : a.eval y = .agg (lnC B m).toArray) (hL : LnAt w b A n) (hB : B.length = 32)
    (h : ∀ w', LnAt w' b B m → Tch [b] w w' → wpList Tryd.prog ops Q rest (a.put dst undef) w') :
    wpList Tryd.prog ops Q (Oper.mk dst (.store 55 x y) ty pos aft none :: rest) a w := by
  have hsz := lnC_arr A n hL.len
  have hsz2 := lnC_arr B m hB
  have hlen : (lnC B m).length = 225 := by rw [lnC_len, hB]
  have hset := set_row (o := 0) hL.row (by rw [hlen, hsz]; omega) (lnC_one B m)
  rw [Nat.zero_add, List.take_zero, List.nil_append, List.drop_of_length_le (by rw [hlen]; simp [lnC_len, hL.len]), List.append_nil] at hset
  refine wpList_store_mid rfl 55 x y rfl b 0 (lnC B m).toArray hx hy (fun j hj => ⟨?_, frozen_of_row w b _ _ _ hL.row⟩) (by rw [line_info, hsz2]) (all_oneCell_toArray (lnC_one B m)) ?_
  · rw [hsz2] at hj
    rw [cell_of_row w b _ _ _ _ hL.row]; rw [Array.getElem?_eq_getElem (by rw [hsz]; omega)]; rfl
  · show wpList _ _ _ _ _ (w.setCells b 0 (lnC B m))
    rw [hset]
    exact h _ ⟨hB, setRow_heap w b _ _ _ _ hL.row⟩ (tch_row _)
end
end Bw
end Go.Proofs.YthdffdobkampaaaDoor
