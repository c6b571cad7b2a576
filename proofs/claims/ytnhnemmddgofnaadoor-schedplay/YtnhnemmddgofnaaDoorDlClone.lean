/- A list of tasks that is cloned, with one more behind it; what delay.Worst answers of anything. -/
import Derived.Test.YtnhnemmddgofnaaDoorDlLed
import Derived.Deep.AppendLies
import Derived.Lib.SliceRun
namespace Go.Proofs.YtnhnemmddgofnaaDoor
open Go.ChangeShapes Go.WideShapes Go.ChangeAt Go.RowKit Go.Sort
namespace Bw
set_option linter.unusedVariables false
def tk5 (r : Tk) : List Value := [.int .i64 r.id, .int .i64 r.by_, .int .i64 r.ev, .int .i64 r.la, .int .i64 r.ji]
def tkCs (l : List Tk) : List Value := l.flatMap tk5
theorem tkCs_len : ∀ l : List Tk, (tkCs l).length = l.length * 5
  | [] => rfl
  | x :: l => by
    have := tkCs_len l
    unfold tkCs at *
    rw [List.flatMap_cons, List.length_append, this, List.length_cons, Nat.add_mul]
    show 5 + _ = _
    omega
theorem tkCs_at : ∀ {l : List Tk} {i r : Nat}, i < l.length → r < 5 → (tkCs l)[i * 5 + r]? = (tk5 (l.getD i noT))[r]?
  | [], _, _, h, _ => by simp at h
  | x :: l, 0, r, _, hr => by
    unfold tkCs
    rw [List.flatMap_cons, Nat.zero_mul, Nat.zero_add, List.getElem?_append_left (by show r < 5; exact hr)]
    rfl
  | x :: l, i + 1, r, h, hr => by
    have h1 := tkCs_at (l := l) (i := i) (r := r) (by simpa using h) hr
    unfold tkCs at *
    rw [List.flatMap_cons, List.getElem?_append_right (by show 5 ≤ _; omega)]
    have e : (i + 1) * 5 + r - (tk5 x).length = i * 5 + r := by show (i + 1) * 5 + r - 5 = _; omega
    rw [e, h1]
    simp [List.getD]
theorem add_off (x : Addr) (m r : Nat) (hr : 0 < r) : x.add (m + r) = ⟨(x.add m).block, (x.add m).off + r, none⟩ := by
  rw [← Addr.add_add]
  generalize x.add m = y
  unfold Addr.add
  rw [if_neg (by omega)]
theorem tks_cells {w : World} {x : Addr} {n c : Nat} {l : List Tk} (h : IsTks w (some x) n c l) : ∀ j u, (tkCs l)[j]? = some u → w.cell? (x.add j) = some u := by
  intro j u hu
  have hlt : j < n * 5 := by
    have := (List.getElem?_eq_some_iff.1 hu).1
    rw [tkCs_len, h.len] at this
    exact this
  have hi : j / 5 < n := by omega
  have hr : j % 5 < 5 := Nat.mod_lt _ (by omega)
  have hj : j = j / 5 * 5 + j % 5 := by omega
  rw [hj, tkCs_at (by rw [h.len]; exact hi) hr] at hu
  have hc := h.cell x rfl _ hi
  rw [hj]
  generalize l.getD (j / 5) noT = r at *
  generalize j / 5 * 5 = m at *
  generalize j % 5 = q at *
  have hq : q = 0 ∨ q = 1 ∨ q = 2 ∨ q = 3 ∨ q = 4 := by omega
  rcases hq with rfl | rfl | rfl | rfl | rfl
  · cases hu; exact hc.c0
  · cases hu; rw [add_off _ _ _ (by omega)]; exact hc.c1
  · cases hu; rw [add_off _ _ _ (by omega)]; exact hc.c2
  · cases hu; rw [add_off _ _ _ (by omega)]; exact hc.c3
  · cases hu; rw [add_off _ _ _ (by omega)]; exact hc.c4
theorem tks_own {w : World} {base : Nat} {g n c : Nat} {l : List Tk} (h : w.ownsRow base 31 5 (.slice (some ⟨g, 0, none⟩) n c) n (tkCs l)) (hl : l.length = n) : IsTks w (some ⟨g, 0, none⟩) n c l := by
  have hc := h.cells (g := g) rfl
  rcases h.2 with ⟨h1, -⟩ | ⟨g', c', cur, h1, -, -, h2, h3, -⟩
  · cases h1
  · cases h1
    refine ⟨hl, h2, h3, fun e => (by cases e), fun y hy i hi => ?_⟩
    cases hy
    have q : ∀ r v, r < 5 → (tk5 (l.getD i noT))[r]? = some v → w.cell? ((⟨g, 0, none⟩ : Addr).add (i * 5 + r)) = some v := fun r v hr hv => hc _ _ (by rw [tkCs_at (by omega) hr]; exact hv)
    refine ⟨q 0 _ (by omega) rfl, ?_, ?_, ?_, ?_⟩
    · rw [← add_off _ _ _ (by omega)]; exact q 1 _ (by omega) rfl
    · rw [← add_off _ _ _ (by omega)]; exact q 2 _ (by omega) rfl
    · rw [← add_off _ _ _ (by omega)]; exact q 3 _ (by omega) rfl
    · rw [← add_off _ _ _ (by omega)]; exact q 4 _ (by omega) rfl
theorem tks_one (l : List Tk) : ∀ u ∈ tkCs l, u.oneCell' = true := by
  intro u hu
  unfold tkCs at hu
  obtain ⟨r, -, hr⟩ := List.mem_flatMap.1 hu
  unfold tk5 at hr
  simp at hr
  rcases hr with rfl | rfl | rfl | rfl | rfl <;> rfl
theorem eqlT_nil (w : World) (cap : Nat) : (binOp .eql 22 (.slice none 0 cap) (.slice none 0 0)).run Tryd.prog w = .ok (.bool true) w :=
  Lib.run_eql_slice_nil w 22 31 none 0 cap 0 0 Tryd.underlying22
theorem eqlT_some (w : World) (x : Addr) (n cap : Nat) : (binOp .eql 22 (.slice (some x) n cap) (.slice none 0 0)).run Tryd.prog w = .ok (.bool false) w :=
  Lib.run_eql_slice_nil w 22 31 (some x) n cap 0 0 Tryd.underlying22
theorem worst_any (a : Option Addr) (n c : Nat) (l : List Tk) (w : World) (hT : IsTks w a n c l) (hS : SizesAt w) (hR : RulesAt w) :
    Calls Tryd.prog 15 #[.slice a n c] w fun e w' => ∃ b m d, e = .returned (.tuple #[.slice b m d, .int .i64 (chkT l)]) ∧ (chkT l = 0 → m = n ∧ IsSts w' b n (stL l n)) ∧ (chkT l ≠ 0 → m = 0) ∧ Below w.heap.size w w' := by
  by_cases h : chkT l = 0
  · refine (worst_ok a n c l w hT h hS hR).mono ?_
    rintro e w' ⟨v, rfl, ho, hb⟩
    obtain ⟨b, d, rfl, hI⟩ := sts_own ho
    exact ⟨b, n, d, by rw [h], fun _ => ⟨rfl, hI⟩, fun hn => absurd h hn, hb⟩
  · refine (worst_bad a n c l w hT h).mono ?_
    rintro e w' ⟨rfl, hb⟩
    exact ⟨none, 0, 0, rfl, fun hn => absurd hn h, fun _ => rfl, hb⟩
theorem chkF_app : ∀ {l m : List Tk} {p : Int}, chkF p (l ++ m) = 0 → chkF p l = 0
  | [], _, _, _ => rfl
  | x :: l, m, p, h => by
    rw [List.cons_append] at h
    unfold chkF at h ⊢
    by_cases hx : okT x = true
    · rw [if_pos hx] at h ⊢
      by_cases hp : x.id ≤ p
      · rw [if_pos hp] at h; cases h
      · rw [if_neg hp] at h ⊢
        exact chkF_app h
    · rw [if_neg hx] at h; cases h
theorem chkT_app {l m : List Tk} (h : chkT (l ++ m) = 0) : chkT l = 0 := by
  have h20 := (chkT_ok h).1
  rw [List.length_append] at h20
  unfold chkT at h ⊢
  rw [if_neg (by rw [List.length_append]; omega)] at h
  rw [if_neg (by omega)]
  exact chkF_app h
end Bw
end Go.Proofs.YtnhnemmddgofnaaDoor
