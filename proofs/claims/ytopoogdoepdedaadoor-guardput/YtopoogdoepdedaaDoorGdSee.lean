/- What package guard's See answers of a right guard: good, the same, broken. -/
import Derived.Test.YtopoogdoepdedaaDoorGdProg
import Derived.Lib.QuietBelow
import Derived.BigQuiet
namespace Go.Proofs.YtopoogdoepdedaaDoor
open Go.ChangeShapes Go.WideShapes Go.ChangeAt Go.RowKit Go.Sort
namespace Bw
open Bm Cm
def gdV (k l b s : Int) : Value := .agg #[.int .i64 k, .int .i64 l, .int .i64 b, .int .i64 s]
def gdC (k l b s : Int) : Obj := .cells #[.int .i64 k, .int .i64 l, .int .i64 b, .int .i64 s] 32
theorem gd_i : (Tryd.prog.info? 32).map (·.size) = some 4 := by kernel_rfl
theorem new2G (w : World) (o p : Obj) : (w.alloc o).alloc p |>.heap[w.heap.size + 1]? = some (p) := by
  have h := heap_alloc_new (w.alloc o) p
  rw [show (w.alloc o).heap.size = w.heap.size + 1 by simp] at h
  exact h
set_option maxHeartbeats 2000000 in
set_option maxRecDepth 100000 in
theorem gcheck_ok (k l b s : Int) (w : World) (hk : 0 ≤ k ∧ k ≤ 65535) (hl : -1 ≤ l ∧ l ≤ 14) (hb : 0 ≤ b) (hs : 0 ≤ s ∧ s ≤ 4) :
    Calls Tryd.prog 19 #[gdV k l b s] w fun e w' => e = .returned (.int .i64 0) ∧ Below w.heap.size w w' := by
  have hW1 := fun W => gwithin_any k 0 65535 W
  have hW2 := fun W => gwithin_any l (-1) 14 W
  have hW3 := fun W => gwithin_any s 0 4 W
  simp only [inG_yes hk] at hW1
  simp only [inG_yes hl] at hW2
  simp only [inG_yes hs] at hW3
  have HB := Hid.mk (awG w (gdC k l b s))
  unfold gdC at HB
  have hb0 : ¬ (b < 0) := by omega
  unfold gdV
  clear hk hl hs
  go_enter Tryd.func19, Tryd.ntmps19
  go_wp2_with fail
  refine (hW1 _).mono ?_
  rintro e w1 ⟨rfl, hw1⟩
  rw [hw1]
  clear hw1
  go_wp2_with fail
  refine (hW2 _).mono ?_
  rintro e w1 ⟨rfl, hw1⟩
  rw [hw1]
  clear hw1
  go_wp2_with fail
  refine (hW3 _).mono ?_
  rintro e w1 ⟨rfl, hw1⟩
  rw [hw1]
  clear hw1
  go_wp2_with fail
  go_ret
  exact ⟨rfl, HB.out⟩
set_option maxHeartbeats 2000000 in
set_option maxRecDepth 100000 in
theorem broken_any (k l b s : Int) (w : World) (hb : 0 ≤ b) (hb1 : b ≤ 999999) :
    Calls Tryd.prog 20 #[gdV k l b s] w fun e w' => e = .returned (gdV k l (b + 1) 4) ∧ Below w.heap.size w w' := by
  have HN := Hid.mk (new2G w (gdC k l (b + 1) 4) (gdC k l (b + 1) 4))
  have HB := Hid.mk (bl2 (awG w (gdC k l (b + 1) 4)) (awG (w.alloc (gdC k l (b + 1) 4)) (gdC k l (b + 1) 4)))
  unfold gdC at HN HB
  unfold gdV
  go_enter Tryd.func20, Tryd.ntmps20
  go_wp2_with fail
  refine bodyPost_ret (results_cell_row rfl _ _ (w.heap.size + 1) _ _ _ _ rfl HN.out Tryd.underlying32 rfl gd_i) rfl ?_
  exact ⟨rfl, HB.out⟩
theorem state_good (l c m : Int) (w : World) (hl : -1 ≤ l ∧ l ≤ 14) (hc : 0 ≤ c ∧ c ≤ 14) (h : l = -1 ∨ (c - l + 15) % 15 = 1) :
    Calls Tryd.prog 37 #[.int .i64 l, .int .i64 c, .int .i64 m] w fun e w' => e = .returned (.int .i64 1) ∧ w' = w := by
  obtain ⟨l0, l1⟩ := hl
  obtain ⟨c0, c1⟩ := hc
  have hrem : IntKind.i64.wrap ((IntKind.i64.wrap (IntKind.i64.wrap (c - l) + 15)).tmod 15) = (c - l + 15) % 15 := by
    have e1 : IntKind.i64.wrap (c - l) = c - l := by rw [IntKind.wrap_i64]; omega
    rw [e1]
    have e2 : IntKind.i64.wrap (c - l + 15) = c - l + 15 := by rw [IntKind.wrap_i64]; omega
    rw [e2, Int.tmod_eq_emod_of_nonneg (by omega), IntKind.wrap_i64]
    omega
  by_cases h1 : l = -1
  · subst h1
    go_enter Tryd.func37, Tryd.ntmps37
    go_wp2_with fail
    go_ret
    exact ⟨rfl, rfl⟩
  · have h2 : (c - l + 15) % 15 = 1 := by omega
    have h3 : (l == -1) = false := by simpa using h1
    clear h h1
    go_enter Tryd.func37, Tryd.ntmps37
    go_wp2_with fail
    go_ret
    exact ⟨rfl, rfl⟩
theorem state_same (l c m : Int) (w : World) (hl : 0 ≤ l ∧ l ≤ 14) (hc : c = l) :
    Calls Tryd.prog 37 #[.int .i64 l, .int .i64 c, .int .i64 m] w fun e w' => e = .returned (.int .i64 3) ∧ w' = w := by
  subst hc
  obtain ⟨c0, c1⟩ := hl
  have hrem : IntKind.i64.wrap ((IntKind.i64.wrap (IntKind.i64.wrap (c - c) + 15)).tmod 15) = 0 := by
    rw [Int.sub_self]
    rfl
  have h3 : (c == -1) = false := by simp; omega
  go_enter Tryd.func37, Tryd.ntmps37
  go_wp2_with fail
  go_ret
  exact ⟨rfl, rfl⟩
set_option maxHeartbeats 2000000 in
set_option maxRecDepth 100000 in
theorem counted_good (k l b s c m : Int) (w : World) (hl : -1 ≤ l ∧ l ≤ 14) (hc : 0 ≤ c ∧ c ≤ 14) (h : l = -1 ∨ (c - l + 15) % 15 = 1) :
    Calls Tryd.prog 21 #[gdV k l b s, .int .i64 c, .int .i64 m] w fun e w' => e = .returned (gdV k c 0 1) ∧ Below w.heap.size w w' := by
  have hS := fun W => state_good l c m W hl hc h
  have HN := Hid.mk (new2G w (gdC k c 0 1) (gdC k c 0 1))
  have HB := Hid.mk (bl2 (awG w (gdC k c 0 1)) (awG (w.alloc (gdC k c 0 1)) (gdC k c 0 1)))
  unfold gdC at HN HB
  unfold gdV
  clear hl hc h
  go_enter Tryd.func21, Tryd.ntmps21
  go_wp2_with fail
  refine (hS _).mono ?_
  rintro e w1 ⟨rfl, hw1⟩
  rw [hw1]
  clear hw1
  go_wp2_with fail
  refine bodyPost_ret (results_cell_row rfl _ _ (w.heap.size + 1) _ _ _ _ rfl HN.out Tryd.underlying32 rfl gd_i) rfl ?_
  exact ⟨rfl, HB.out⟩
set_option maxHeartbeats 2000000 in
set_option maxRecDepth 100000 in
theorem counted_same (k l b s c m : Int) (w : World) (hl : 0 ≤ l ∧ l ≤ 14) (hc : c = l) :
    Calls Tryd.prog 21 #[gdV k l b s, .int .i64 c, .int .i64 m] w fun e w' => e = .returned (gdV k c b 3) ∧ Below w.heap.size w w' := by
  have hS := fun W => state_same l c m W hl hc
  have HN := Hid.mk (new2G w (gdC k c b 3) (gdC k c b 3))
  have HB := Hid.mk (bl2 (awG w (gdC k c b 3)) (awG (w.alloc (gdC k c b 3)) (gdC k c b 3)))
  unfold gdC at HN HB
  unfold gdV
  clear hl hc
  go_enter Tryd.func21, Tryd.ntmps21
  go_wp2_with fail
  refine (hS _).mono ?_
  rintro e w1 ⟨rfl, hw1⟩
  rw [hw1]
  clear hw1
  go_wp2_with fail
  refine bodyPost_ret (results_cell_row rfl _ _ (w.heap.size + 1) _ _ _ _ rfl HN.out Tryd.underlying32 rfl gd_i) rfl ?_
  exact ⟨rfl, HB.out⟩
theorem see_res (tmps : Array Value) (w : World) (g : Nat) (cs : Array Value) (x : Value) (hp : tmps.getD 6 undef = .pointer (some ⟨g, 0, none⟩)) (hx : tmps.getD 7 undef = x) (h : w.heap[g]? = some (.cells cs 32 (0, 0))) (hs : cs.size = 4) :
    (results Tryd.f10 tmps).run Tryd.prog w = .ok (.tuple #[.agg cs, x]) w := by
  have hl := run_loadVar_row (P := Tryd.prog) w g 32 32 cs (0, 0) _ h Tryd.underlying32 rfl (by rw [gd_i, hs])
  have hp' : tmps[6]?.getD undef = .pointer (some ⟨g, 0, none⟩) := by simpa using hp
  have hx' : tmps[7]?.getD undef = x := by simpa using hx
  simp [results, hp', hx', asAddr, hl]
theorem and15 : ((List.range 256).all fun c => (bits .and .u8 (c : Int) 15 == ((c % 16 : Nat) : Int))) = true := by kernel_rfl
theorem and_op {c : Nat} (hc : c < 256) : bits .and .u8 (c : Int) 15 = ((c % 16 : Nat) : Int) := eq_of_beq (List.all_eq_true.1 and15 c (List.mem_range.2 hc))
/-- a guard's variable -/
def GdAt (w : World) (g : Nat) (k l b s : Int) : Prop := w.heap[g]? = some (.cells #[.int .i64 k, .int .i64 l, .int .i64 b, .int .i64 s] 32 (0, 0))
theorem GdAt.lt {w : World} {g : Nat} {k l b s : Int} (h : GdAt w g k l b s) : g < w.heap.size := (Array.getElem?_eq_some_iff.1 h).1
theorem GdAt.kept {w w' : World} {g : Nat} {k l b s : Int} (h : GdAt w g k l b s) (hb : Below w.heap.size w w') : GdAt w' g k l b s := by unfold GdAt; rw [hb.block g h.lt]; exact h
theorem GdAt.cells {w : World} {g : Nat} {k l b s : Int} (h : GdAt w g k l b s) : (w.cell? ⟨g, 0, none⟩ = some (.int .i64 k) ∧ w.cell? ⟨g, 1, none⟩ = some (.int .i64 l) ∧ w.cell? ⟨g, 2, none⟩ = some (.int .i64 b) ∧ w.cell? ⟨g, 3, none⟩ = some (.int .i64 s)) ∧ (w.frozen? ⟨g, 0, none⟩ = false ∧ w.frozen? ⟨g, 1, none⟩ = false ∧ w.frozen? ⟨g, 2, none⟩ = false ∧ w.frozen? ⟨g, 3, none⟩ = false) :=
  ⟨⟨cell_of_row _ _ 0 _ _ _ h, cell_of_row _ _ 1 _ _ _ h, cell_of_row _ _ 2 _ _ _ h, cell_of_row _ _ 3 _ _ _ h⟩, ⟨frozen_of_row _ _ 0 _ _ h, frozen_of_row _ _ 1 _ _ h, frozen_of_row _ _ 2 _ _ h, frozen_of_row _ _ 3 _ _ h⟩⟩
theorem GdAt.store {w : World} {g : Nat} {k l b s : Int} (h : GdAt w g k l b s) (k' l' b' s' : Int) :
    ((w.setCell ⟨g, 0, none⟩ (.int .i64 k')).cell? ⟨g, 1, none⟩ = some (.int .i64 l) ∧ (w.setCell ⟨g, 0, none⟩ (.int .i64 k')).frozen? ⟨g, 1, none⟩ = false) ∧ (((w.setCell ⟨g, 0, none⟩ (.int .i64 k')).setCell ⟨g, 1, none⟩ (.int .i64 l')).cell? ⟨g, 2, none⟩ = some (.int .i64 b) ∧ ((w.setCell ⟨g, 0, none⟩ (.int .i64 k')).setCell ⟨g, 1, none⟩ (.int .i64 l')).frozen? ⟨g, 2, none⟩ = false) ∧ ((((w.setCell ⟨g, 0, none⟩ (.int .i64 k')).setCell ⟨g, 1, none⟩ (.int .i64 l')).setCell ⟨g, 2, none⟩ (.int .i64 b')).cell? ⟨g, 3, none⟩ = some (.int .i64 s) ∧ (((w.setCell ⟨g, 0, none⟩ (.int .i64 k')).setCell ⟨g, 1, none⟩ (.int .i64 l')).setCell ⟨g, 2, none⟩ (.int .i64 b')).frozen? ⟨g, 3, none⟩ = false) ∧ GdAt ((((w.setCell ⟨g, 0, none⟩ (.int .i64 k')).setCell ⟨g, 1, none⟩ (.int .i64 l')).setCell ⟨g, 2, none⟩ (.int .i64 b')).setCell ⟨g, 3, none⟩ (.int .i64 s')) g k' l' b' s' := by
  have e0 : w.heap[g]? = some (.cells #[.int .i64 k, .int .i64 l, .int .i64 b, .int .i64 s] 32 (0, 0)) := h
  have e1 := heap_setCell_same _ g 0 _ _ (.int .i64 k') e0
  have e2 := heap_setCell_same _ g 1 _ _ (.int .i64 l') e1
  have e3 := heap_setCell_same _ g 2 _ _ (.int .i64 b') e2
  have e4 := heap_setCell_same _ g 3 _ _ (.int .i64 s') e3
  exact ⟨⟨cell_of_row _ _ 1 _ _ _ e1, frozen_of_row _ _ 1 _ _ e1⟩, ⟨cell_of_row _ _ 2 _ _ _ e2, frozen_of_row _ _ 2 _ _ e2⟩, ⟨cell_of_row _ _ 3 _ _ _ e3, frozen_of_row _ _ 3 _ _ e3⟩, e4⟩
theorem gd_set {B : Nat} {a w : World} (h : Below B a w) {g : Nat} (hg : B ≤ g) (d0 d1 d2 d3 : Value) : Below B a ((((w.setCell ⟨g, 0, none⟩ d0).setCell ⟨g, 1, none⟩ d1).setCell ⟨g, 2, none⟩ d2).setCell ⟨g, 3, none⟩ d3) :=
  ((((h.setCell (p := ⟨g, 0, none⟩) hg d0).setCell (p := ⟨g, 1, none⟩) hg d1).setCell (p := ⟨g, 2, none⟩) hg d2).setCell (p := ⟨g, 3, none⟩) hg d3)
theorem gdW (w : World) (k l b s : Int) : GdAt ((w.alloc (gdC k l b s)).alloc (gdC 0 0 0 0)) w.heap.size k l b s ∧ GdAt ((w.alloc (gdC k l b s)).alloc (gdC 0 0 0 0)) (w.heap.size + 1) 0 0 0 0 ∧ Below w.heap.size w ((w.alloc (gdC k l b s)).alloc (gdC 0 0 0 0)) :=
  ⟨GdAt.kept (show GdAt (w.alloc (gdC k l b s)) w.heap.size k l b s from heap_alloc_new w _) (awG _ _), new2G w _ _, bl2 (awG _ _) (awG _ _)⟩
end Bw
end Go.Proofs.YtopoogdoepdedaaDoor
