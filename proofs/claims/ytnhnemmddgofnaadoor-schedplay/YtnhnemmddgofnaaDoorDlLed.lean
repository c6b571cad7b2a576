/- The closed fact of the laws: two tasks wait for 270 ticks each. -/
import Derived.Test.YtnhnemmddgofnaaDoorDlWorst
namespace Go.Proofs.YtnhnemmddgofnaaDoor
open Go.ChangeShapes Go.WideShapes Go.ChangeAt Go.RowKit Go.Sort
namespace Bw
set_option linter.unusedVariables false
/-- stops in a row -/
structure IsSts (w : World) (a : Option Addr) (n : Nat) (L : List (Int × Bool)) : Prop where
  len : L.length = n
  nil : a = none → n = 0
  cell : ∀ x, a = some x → ∀ i, i < n → w.cell? (x.add (i * 2)) = some (.int .i64 (L.getD i (0, false)).1) ∧ w.cell? ⟨(x.add (i * 2)).block, (x.add (i * 2)).off + 1, none⟩ = some (.bool (L.getD i (0, false)).2)
theorem IsSts.kept {w w' : World} {a : Option Addr} {n : Nat} {L : List (Int × Bool)} (h : IsSts w a n L) (hb : Below w.heap.size w w') : IsSts w' a n L :=
  ⟨h.len, h.nil, fun x hx i hi => ⟨cell_kept hb (h.cell x hx i hi).1, cell_kept hb (h.cell x hx i hi).2⟩⟩
def stL (l : List Tk) (n : Nat) : List (Int × Bool) := (List.range n).map fun i => (stopAt l i, fitB l i)
theorem stC_at (l : List Tk) : ∀ {n i : Nat}, i < n → (stC l n)[i * 2]? = some (.int .i64 (stopAt l i)) ∧ (stC l n)[i * 2 + 1]? = some (.bool (fitB l i))
  | 0, _, h => by omega
  | n + 1, i, h => by
    have hl : (stC l n).length = n * 2 := by unfold stC; rw [List.length_flatMap]; simp [stE1, List.map_const']
    rw [stC_snoc]
    by_cases e : i = n
    · subst e
      rw [List.getElem?_append_right (by omega), List.getElem?_append_right (by omega), hl, Nat.sub_self, show i * 2 + 1 - i * 2 = 1 by omega]
      exact ⟨rfl, rfl⟩
    · rw [List.getElem?_append_left (by omega), List.getElem?_append_left (by omega)]
      exact stC_at l (by omega)
theorem sts_own {w : World} {base : Nat} {v : Value} {l : List Tk} {n : Nat} (h : w.ownsRow base 49 2 v n (stC l n)) : ∃ a c, v = .slice a n c ∧ IsSts w a n (stL l n) := by
  rcases h.2 with ⟨h1, h2⟩ | ⟨g, c, cur, h1, -⟩
  · subst h2
    exact ⟨none, 0, h1, ⟨rfl, fun _ => rfl, fun x hx => by cases hx⟩⟩
  · refine ⟨_, c, h1, ⟨by simp [stL], fun e => (by cases e), fun x hx i hi => ?_⟩⟩
    cases hx
    rw [h1] at h
    obtain ⟨e1, e2⟩ := stC_at l hi
    have q1 := h.cells (g := g) rfl _ _ e1
    have q2 := h.cells (g := g) rfl _ _ e2
    have e3 : (stL l n).getD i (0, false) = (stopAt l i, fitB l i) := by simp [stL, List.getD, hi]
    rw [e3]
    refine ⟨q1, ?_⟩
    have e4 : (⟨g, 0, none⟩ : Addr).add (i * 2 + 1) = ⟨((⟨g, 0, none⟩ : Addr).add (i * 2)).block, ((⟨g, 0, none⟩ : Addr).add (i * 2)).off + 1, none⟩ := by
      rw [← Addr.add_add]
      unfold Addr.add
      by_cases hz : i * 2 = 0 <;> simp [hz]
    rw [← e4]
    exact q2
def twoT : List Tk := [⟨1, 8, 1000, 1000, 0⟩, ⟨2, 8, 1000, 1000, 0⟩]
theorem two_ok : chkT twoT = 0 := by decide
theorem two_0 : stopAt twoT 0 = 270 := by decide +kernel
theorem two_1 : stopAt twoT 1 = 270 := by decide +kernel
set_option maxHeartbeats 1000000 in
theorem tasks_any (w : World) :
    Calls Tryd.prog 22 #[] w fun e w' => ∃ a c, e = .returned (.slice a 2 c) ∧ IsTks w' a 2 c twoT ∧ Below w.heap.size w w' := by
  go_enter Tryd.func22, Tryd.ntmps22
  go_wp2_with fail
  go_ret
  have h := heap_alloc_new w (.cells #[.int .i64 1, .int .i64 8, .int .i64 1000, .int .i64 1000, .int .i64 0, .int .i64 2, .int .i64 8, .int .i64 1000, .int .i64 1000, .int .i64 0] 31)
  refine ⟨_, _, rfl, ⟨rfl, Nat.le_refl _, by unfold maxLen; omega, fun e => (by cases e), fun x hx i hi => ?_⟩, awD w _⟩
  cases hx
  have hi2 : i = 0 ∨ i = 1 := by omega
  rcases hi2 with rfl | rfl
  · exact ⟨cell_of_row _ _ 0 _ _ _ h, cell_of_row _ _ 1 _ _ _ h, cell_of_row _ _ 2 _ _ _ h, cell_of_row _ _ 3 _ _ _ h, cell_of_row _ _ 4 _ _ _ h⟩
  · exact ⟨cell_of_row _ _ 5 _ _ _ h, cell_of_row _ _ 6 _ _ _ h, cell_of_row _ _ 7 _ _ _ h, cell_of_row _ _ 8 _ _ _ h, cell_of_row _ _ 9 _ _ _ h⟩
theorem two_st : stL twoT 2 = [(270, true), (270, true)] := by
  unfold stL fitB
  simp [List.range_succ, two_0, two_1]
  decide
end Bw
end Go.Proofs.YtnhnemmddgofnaaDoor
