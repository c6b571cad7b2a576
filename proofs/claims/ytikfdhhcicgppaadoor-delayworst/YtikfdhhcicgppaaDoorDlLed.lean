/- The closed fact of the laws: two tasks wait for 270 ticks each. -/
import Derived.Test.YtikfdhhcicgppaaDoorDlWorst
namespace Go.Proofs.YtikfdhhcicgppaaDoor
open Go.ChangeShapes Go.WideShapes Go.ChangeAt Go.RowKit Go.Sort
namespace Bw
set_option linter.unusedVariables false
/-- stops in a row -/
structure IsSts (w : World) (a : Option Addr) (n : Nat) (L : List (Int × Bool)) : Prop where
  len : L.length = n
  nil : a = none → n = 0
  cell : ∀ x, a = some x → ∀ i, i < n → w.cell? (x.add (i * 2)) = some (.int .i64 (L.getD i (0, false)).1) ∧ w.cell? ⟨(x.add (i * 2)).block, (x.add (i * 2)).off + 1, none⟩ = some (.bool (L.getD i (0, false)).2)
theorem IsSts.kept {w w' : World} {a : Option Addr} {n : Nat} {L : List (Int × Bool)} (h : IsSts w a n L) (hb : Below w.heap.size w w') : IsSts w' a n L :=
  ⟨h.len, h.nil, fun x hx i hi => ⟨cell_kept hb (h.cell x hx i hi).1, cell_kept hb (h.cell x hx i hi).2⟩⟩
def stL (l : List Tk) (n : Nat) : List (Int × Bool) := (List.range n).map fun i => (stopAt l i, fitB l i)
theorem stC_at (l : List Tk) : ∀ {n i : Nat}, i < n → (stC l n)[i * 2]? = some (.int .i64 (stopAt l i)) ∧ (stC l n)[i * 2 + 1]? = some (.bool (fitB l i))
  | 0, _, h => by omega
  | n + 1, i, h => by
    have hl : (stC l n).length = n * 2 := by unfold stC; rw [List.length_flatMap]; simp [stE1, List.map_const']
    rw [stC_snoc]
    by_cases e : i = n
    · subst e
      rw [List.getElem?_append_right (by omega), List.getElem?_append_right (by omega), hl, Nat.sub_self, show i * 2 + 1 - i * 2 = 1 by omega]
      exact ⟨rfl, rfl⟩
    · rw [List.getElem?_append_left (by omega), List.getElem?_append_left (by omega)]
      exact stC_at l (by omega)
theorem sts_own {w : World} {base : Nat} {v : Value} {l : List Tk} {n : Nat} (h : w.ownsRow base 36 2 v n (stC l n)) : ∃ a c, v = .slice a n c ∧ IsSts w a n (stL l n) := by
  rcases h.2 with ⟨h1, h2⟩ | ⟨g, c, cur, h1, -⟩
  · subst h2
    exact ⟨none, 0, h1, ⟨rfl, fun _ => rfl, fun x hx => by cases hx⟩⟩
  · refine ⟨_, c, h1, ⟨by simp [stL], fun e => (by cases e), fun x hx i hi => ?_⟩⟩
    cases hx
    rw [h1] at h
    obtain ⟨e1, e2⟩ := stC_at l hi
    have q1 := h.cells (g := g) rfl _ _ e1
    have q2 := h.cells (g := g) rfl _ _ e2
    have e3 : (stL l n).getD i (0, false) = (stopAt l i, fitB l i) := by simp [stL, List.getD, hi]
    rw [e3]
    refine ⟨q1, ?_⟩
    have e4 : (⟨g, 0, none⟩ : Addr).add (i * 2 + 1) = ⟨((⟨g, 0, none⟩ : Addr).add (i * 2)).block, ((⟨g, 0, none⟩ : Addr).add (i * 2)).off + 1, none⟩ := by
      rw [← Addr.add_add]
      unfold Addr.add
      by_cases hz : i * 2 = 0 <;> simp [hz]
    rw [← e4]
    exact q2
set_option maxHeartbeats 2000000 in
set_option maxRecDepth 100000 in
theorem equalS_true (a b : Option Addr) (n c d : Nat) (L : List (Int × Bool)) (w : World) (hA : IsSts w a n L) (hB : IsSts w b n L) (hn : n ≤ 1000) :
    Calls Tryd.prog 21 #[.slice a n c, .slice b n d] w fun e w' => e = .returned (.bool true) ∧ Below w.heap.size w w' := by
  have HA := Hid.mk hA
  have HB := Hid.mk hB
  have hn' : (n : Int) ≤ 1000 := by omega
  clear hA hB
  go_enter Tryd.func21, Tryd.ntmps21
  go_wp2_with fail
  go_loopw [13] (fun i wr => ∃ k : Nat, k ≤ n ∧ i = .int .i64 k ∧ Hid (Below w.heap.size w wr)) (fun i _ => n - (intOf i).toNat)
  case atStart => exact ⟨0, Nat.zero_le _, rfl, Hid.mk (Below.refl _ _)⟩
  case round =>
    obtain ⟨k, hk, rfl, HBw⟩ := hrel
    by_cases hlt : k < n
    · have hlt' : (k : Int) < (n : Int) := by omega
      obtain ⟨x, rfl⟩ : ∃ x, a = some x := by
        cases a with
        | none => exact absurd (HA.out.nil rfl) (by omega)
        | some x => exact ⟨x, rfl⟩
      obtain ⟨y, rfl⟩ : ∃ y, b = some y := by
        cases b with
        | none => exact absurd (HB.out.nil rfl) (by omega)
        | some y => exact ⟨y, rfl⟩
      obtain ⟨a0, a1⟩ := (HA.out.kept HBw.out).cell x rfl k hlt
      obtain ⟨b0, b1⟩ := (HB.out.kept HBw.out).cell y rfl k hlt
      generalize L.getD k (0, false) = P at *
      obtain ⟨u, v⟩ := P
      simp only at a0 a1 b0 b1
      go_wp2_with fail
      go_quiet (fail)
      go_wp2_with fail
      go_roundw
      case rel => exact ⟨k + 1, by omega, by go_num, Hid.mk (below_drD HBw.out _)⟩
      case measure => simp [intOf]; omega
    · obtain rfl : k = n := by omega
      go_wp2_with fail
      go_ret
      exact ⟨rfl, HBw.out⟩
def twoT : List Tk := [⟨1, 8, 1000, 1000, 0⟩, ⟨2, 8, 1000, 1000, 0⟩]
theorem two_ok : chkT twoT = 0 := by decide
theorem two_0 : stopAt twoT 0 = 270 := by decide +kernel
theorem two_1 : stopAt twoT 1 = 270 := by decide +kernel
set_option maxHeartbeats 1000000 in
theorem tasks_any (w : World) :
    Calls Tryd.prog 20 #[] w fun e w' => ∃ a c, e = .returned (.slice a 2 c) ∧ IsTks w' a 2 c twoT ∧ Below w.heap.size w w' := by
  go_enter Tryd.func20, Tryd.ntmps20
  go_wp2_with fail
  go_ret
  have h := heap_alloc_new w (.cells #[.int .i64 1, .int .i64 8, .int .i64 1000, .int .i64 1000, .int .i64 0, .int .i64 2, .int .i64 8, .int .i64 1000, .int .i64 1000, .int .i64 0] 32)
  refine ⟨_, _, rfl, ⟨rfl, Nat.le_refl _, by unfold maxLen; omega, fun e => (by cases e), fun x hx i hi => ?_⟩, awD w _⟩
  cases hx
  have hi2 : i = 0 ∨ i = 1 := by omega
  rcases hi2 with rfl | rfl
  · exact ⟨cell_of_row _ _ 0 _ _ _ h, cell_of_row _ _ 1 _ _ _ h, cell_of_row _ _ 2 _ _ _ h, cell_of_row _ _ 3 _ _ _ h, cell_of_row _ _ 4 _ _ _ h⟩
  · exact ⟨cell_of_row _ _ 5 _ _ _ h, cell_of_row _ _ 6 _ _ _ h, cell_of_row _ _ 7 _ _ _ h, cell_of_row _ _ 8 _ _ _ h, cell_of_row _ _ 9 _ _ _ h⟩
theorem two_st : stL twoT 2 = [(270, true), (270, true)] := by
  unfold stL fitB
  simp [List.range_succ, two_0, two_1]
  decide
set_option maxHeartbeats 2000000 in
set_option maxRecDepth 100000 in
theorem delayed_any (w : World) (hS : SizesAt w) (hR : RulesAt w) :
    Calls Tryd.prog 8 #[] w fun e w' => e = .returned (.bool true) ∧ Below w.heap.size w w' := by
  have HS := Hid.mk hS
  have HR := Hid.mk hR
  clear hS hR
  go_enter Tryd.func8, Tryd.ntmps8
  go_wp2_with fail
  refine (tasks_any w).mono ?_
  rintro e w1 ⟨a, c, rfl, hT, hb1⟩
  have HB1 := Hid.mk hb1
  have HWO := Hid.mk (worst_ok a 2 c twoT w1 hT two_ok (HS.out.kept hb1) (HR.out.kept hb1))
  clear hT hb1
  go_wp2_with fail
  refine HWO.out.mono ?_
  rintro e w2 ⟨v, rfl, ho, hb2⟩
  obtain ⟨b, d, rfl, hI⟩ := sts_own ho
  rw [two_st] at hI
  have HB2 := Hid.mk (bl2 HB1.out hb2)
  have hb3 := awD w2 (.cells #[.int .i64 270, .bool true, .int .i64 270, .bool true] 36)
  have hh := heap_alloc_new w2 (.cells #[.int .i64 270, .bool true, .int .i64 270, .bool true] 36)
  have HB3 := Hid.mk (bl2 HB2.out hb3)
  have HEQ := Hid.mk (equalS_true b (some ⟨w2.heap.size, 0, none⟩) 2 d 2 _ (w2.alloc (.cells #[.int .i64 270, .bool true, .int .i64 270, .bool true] 36)) (hI.kept hb3) ⟨rfl, fun e => (by cases e), fun x hx i hi => by
    cases hx
    have hi2 : i = 0 ∨ i = 1 := by omega
    rcases hi2 with rfl | rfl
    · exact ⟨cell_of_row _ _ 0 _ _ _ hh, cell_of_row _ _ 1 _ _ _ hh⟩
    · exact ⟨cell_of_row _ _ 2 _ _ _ hh, cell_of_row _ _ 3 _ _ _ hh⟩⟩ (by omega))
  clear ho hI hb2 hb3 hh HWO
  go_wp2_with fail
  refine HEQ.out.mono ?_
  rintro e w3 ⟨rfl, hb3⟩
  have HB4 := Hid.mk (bl2 HB3.out hb3)
  clear hb3 HEQ
  go_wp2_with fail
  go_ret
  exact ⟨rfl, HB4.out⟩
end Bw
end Go.Proofs.YtikfdhhcicgppaaDoor
