/- Slots in a row; the closed fact of the laws: two at a time. -/
import Derived.Test.YtnhnemmddgofnaaDoorSbPlayW
import Derived.Test.YtnhnemmddgofnaaDoorDlLed
namespace Go.Proofs.YtnhnemmddgofnaaDoor
open Go.ChangeShapes Go.WideShapes Go.ChangeAt Go.RowKit
namespace Bw
open Sb (Ms Sl asks)
set_option linter.unusedVariables false
structure SlOn (w : World) (y : Addr) (C : Nat → Nat) (x : Sl) : Prop where
  c0 : w.cell? y = some (.int .i64 (x.k : Nat))
  c1 : w.cell? ⟨y.block, y.off + 1, none⟩ = some (.int .i64 (x.d : Nat))
  c2 : w.cell? ⟨y.block, y.off + 2, none⟩ = some (.int .i64 (x.s : Nat))
  c3 : w.cell? ⟨y.block, y.off + 3, none⟩ = some (.int .i64 ((x.s + C x.k : Nat) : Int))
theorem SlOn.kept {w w' : World} {y : Addr} {C : Nat → Nat} {x : Sl} (h : SlOn w y C x) (hb : Below w.heap.size w w') : SlOn w' y C x :=
  ⟨cell_kept hb h.c0, cell_kept hb h.c1, cell_kept hb h.c2, cell_kept hb h.c3⟩
structure IsSls (w : World) (a : Option Addr) (n : Nat) (C : Nat → Nat) (L : List Sl) : Prop where
  len : L.length = n
  nil : a = none → n = 0
  cell : ∀ x, a = some x → ∀ i, i < n → SlOn w (x.add (i * 4)) C (L.getD i noS)
theorem IsSls.kept {w w' : World} {a : Option Addr} {n : Nat} {C : Nat → Nat} {L : List Sl} (h : IsSls w a n C L) (hb : Below w.heap.size w w') : IsSls w' a n C L :=
  ⟨h.len, h.nil, fun x hx i hi => (h.cell x hx i hi).kept hb⟩
theorem IsSls.some {w : World} {a : Option Addr} {n : Nat} {C : Nat → Nat} {L : List Sl} (h : IsSls w a n C L) {i : Nat} (hi : i < n) : ∃ x, a = some x := by
  cases a with
  | none => exact absurd (h.nil rfl) (by omega)
  | some x => exact ⟨x, rfl⟩
theorem slCs_at (C : Nat → Nat) : ∀ {L : List Sl} {i r : Nat}, i < L.length → r < 4 → (slCs C L)[i * 4 + r]? = (slC C (L.getD i noS))[r]?
  | [], _, _, h, _ => by simp at h
  | x :: L, 0, r, _, hr => by
    have e : slCs C (x :: L) = slC C x ++ slCs C L := rfl
    rw [e, Nat.zero_mul, Nat.zero_add, List.getElem?_append_left (by show r < 4; exact hr)]
    rfl
  | x :: L, i + 1, r, h, hr => by
    have e : slCs C (x :: L) = slC C x ++ slCs C L := rfl
    have h4 : (slC C x).length = 4 := rfl
    have h1 := slCs_at C (L := L) (i := i) (r := r) (by simp at h; omega) hr
    rw [e, List.getElem?_append_right (by omega), h4, show (i + 1) * 4 + r - 4 = i * 4 + r by omega, h1]
    rfl
theorem add_offS (x : Addr) (m r : Nat) (hr : 0 < r) : x.add (m + r) = ⟨(x.add m).block, (x.add m).off + r, none⟩ := by
  rw [← Addr.add_add]
  unfold Addr.add
  have : ¬ r = 0 := by omega
  simp [this]
theorem sls_own {w : World} {base : Nat} {v : Value} {C : Nat → Nat} {L : List Sl} (h : w.ownsRow base 38 4 v L.length (slCs C L)) : ∃ a c, v = .slice a L.length c ∧ IsSls w a L.length C L ∧ L.length ≤ c ∧ c ≤ maxLen := by
  rcases h.2 with ⟨h1, h2⟩ | ⟨g, c, cur, h1, hb, hg, hnc, hcm, -⟩
  · exact ⟨none, 0, by rw [h1, h2], ⟨rfl, fun _ => h2, fun x hx => by cases hx⟩, by omega, Nat.zero_le _⟩
  · refine ⟨_, c, h1, ⟨rfl, fun e => (by cases e), fun x hx i hi => ?_⟩, hnc, hcm⟩
    cases hx
    rw [h1] at h
    have hq : ∀ r u, r < 4 → (slC C (L.getD i noS))[r]? = some u → w.cell? ((⟨g, 0, none⟩ : Addr).add (i * 4 + r)) = some u := fun r u hr hu => h.cells (g := g) rfl _ _ (by rw [slCs_at C hi hr]; exact hu)
    refine ⟨hq 0 _ (by omega) rfl, ?_, ?_, ?_⟩
    · rw [← add_offS _ _ 1 (by omega)]; exact hq 1 _ (by omega) rfl
    · rw [← add_offS _ _ 2 (by omega)]; exact hq 2 _ (by omega) rfl
    · rw [← add_offS _ _ 3 (by omega)]; exact hq 3 _ (by omega) rfl
set_option maxHeartbeats 4000000 in
set_option maxRecDepth 100000 in
theorem equalSl_true (a b : Option Addr) (n c d : Nat) (C : Nat → Nat) (L : List Sl) (w : World) (hA : IsSls w a n C L) (hB : IsSls w b n C L) (hn : n ≤ 1000) :
    Calls Tryd.prog 12 #[.slice a n c, .slice b n d] w fun e w' => e = .returned (.bool true) ∧ Below w.heap.size w w' := by
  have HA := Hid.mk hA
  have HB := Hid.mk hB
  have hn' : (n : Int) ≤ 1000 := by omega
  clear hA hB
  go_enter Tryd.func12, Tryd.ntmps12
  go_wp2_with fail
  go_loopw [13] (fun i wr => ∃ k : Nat, k ≤ n ∧ i = .int .i64 k ∧ Hid (Below w.heap.size w wr)) (fun i _ => n - (intOf i).toNat)
  case atStart => exact ⟨0, Nat.zero_le _, rfl, Hid.mk (Below.refl _ _)⟩
  case round =>
    obtain ⟨k, hk, rfl, HBw⟩ := hrel
    by_cases hlt : k < n
    · have hlt' : (k : Int) < (n : Int) := by omega
      obtain ⟨x, rfl⟩ := HA.out.some hlt
      obtain ⟨y, rfl⟩ := HB.out.some hlt
      obtain ⟨a0, a1, a2, a3⟩ := (HA.out.kept HBw.out).cell x rfl k hlt
      obtain ⟨b0, b1, b2, b3⟩ := (HB.out.kept HBw.out).cell y rfl k hlt
      generalize L.getD k noS = P at *
      generalize ((P.s + C P.k : Nat) : Int) = pe at *
      generalize ((P.k : Nat) : Int) = pk at *
      generalize ((P.d : Nat) : Int) = pd at *
      generalize ((P.s : Nat) : Int) = ps at *
      go_wp2_with fail
      go_quiet (fail)
      go_wp2_with fail
      go_roundw
      case rel => exact ⟨k + 1, by omega, by go_num, Hid.mk (below_drD HBw.out _)⟩
      case measure => simp [intOf]; omega
    · obtain rfl : k = n := by omega
      go_wp2_with fail
      go_ret
      exact ⟨rfl, HBw.out⟩
/-- what the closed fact's play tells -/
def twoS : List Sl := [⟨0, 5, 5, 5⟩, ⟨1, 5, 5, 140⟩]
theorem two_r : playR twoT [5, 5] [] 100 = (0, [[(5, 5)], [(5, 5)]]) := by decide +kernel
theorem two_e : playE twoT [5, 5] [] 100 = 0 := by
  unfold playE
  rw [if_pos two_ok, if_pos ⟨rfl, by simp, rfl⟩, two_r]
open Classical in
theorem two_p : Sb.Play (Sb.cT twoT) 0 (asks [[(5, 5)], [(5, 5)]]) twoS := by
  refine ⟨⟨0, 5, 5⟩, 5, rfl, by simp [asks, Sb.asksF], by omega, Nat.le_refl _, ?_, .inr ?_, ?_⟩
  · intro x hx _
    simp [asks, Sb.asksF] at hx
    rcases hx with rfl | rfl
    · right; exact ⟨rfl, Nat.le_refl _⟩
    · left; show 0 < 1; omega
  · intro x hx
    simp [asks, Sb.asksF] at hx
    rcases hx with rfl | rfl <;> exact Nat.le_refl _
  · have e : (asks [[(5, 5)], [(5, 5)]]).erase ⟨0, 5, 5⟩ = [⟨1, 5, 5⟩] := List.erase_cons_head ..
    rw [e]
    refine ⟨⟨1, 5, 5⟩, 140, rfl, by simp, by show 5 + Sb.cT twoT 0 ≤ 140; decide, by show 5 ≤ 140; omega, ?_, .inl ?_, ?_⟩
    · intro x hx _
      rw [List.mem_singleton] at hx
      subst hx
      right; exact ⟨rfl, Nat.le_refl _⟩
    · show 140 = 5 + Sb.cT twoT 0
      decide
    · exact List.erase_cons_head ..
theorem two_u {S : List Sl} (h : Sb.Play (Sb.cT twoT) 0 (asks [[(5, 5)], [(5, 5)]]) S) : S = twoS :=
  h.det two_p (List.Perm.refl _) (by simp [asks, Sb.asksF, Sb.key])
set_option maxHeartbeats 4000000 in
set_option maxRecDepth 100000 in
theorem played_any (w : World) (hS : SizesAt w) (hR : RulesAt w) :
    Calls Tryd.prog 9 #[] w fun e w' => e = .returned (.bool true) ∧ Below w.heap.size w w' := by
  have HS := Hid.mk hS
  have HR := Hid.mk hR
  clear hS hR
  go_enter Tryd.func9, Tryd.ntmps9
  go_wp2_with fail
  refine (tasks_any w).mono ?_
  rintro e w1 ⟨a, c, rfl, hT, hb1⟩
  have hb2 := awD w1 (.cells #[.int .i64 5, .int .i64 5] 3)
  have HB2 := Hid.mk (bl2 hb1 hb2)
  have hh := heap_alloc_new w1 (.cells #[.int .i64 5, .int .i64 5] 3)
  have HP := Hid.mk (play_any a 2 c twoT (some ⟨w1.heap.size, 0, none⟩) 2 2 [5, 5] none 0 0 [] 100 (w1.alloc (.cells #[.int .i64 5, .int .i64 5] 3)) (hT.kept hb2) ⟨rfl, Nat.le_refl _, by unfold maxLen; omega, fun e => (by cases e), fun x hx i hi => by
    cases hx
    have hi2 : i = 0 ∨ i = 1 := by omega
    rcases hi2 with rfl | rfl
    · exact cell_of_row _ _ 0 _ _ _ hh
    · exact cell_of_row _ _ 1 _ _ _ hh⟩ ⟨rfl, Nat.le_refl _, Nat.zero_le _, fun _ => rfl, fun x hx => by cases hx⟩ (HS.out.kept HB2.out) (HR.out.kept HB2.out))
  rw [two_e, two_r] at HP
  simp only at HP
  clear hT hb1 hb2 hh
  go_wp2_with fail
  refine HP.out.mono ?_
  rintro e w2 ⟨vS, S, rfl, hpi, hb3⟩
  have hu := two_u (hpi.play rfl)
  subst hu
  obtain ⟨b, d, hv, hI, -, -⟩ := sls_own (hpi.own rfl)
  have h2 : twoS.length = 2 := rfl
  rw [h2] at hv hI
  subst hv
  have HB3 := Hid.mk (bl2 HB2.out hb3)
  have hb4 := awD w2 (.cells #[.int .i64 0, .int .i64 5, .int .i64 5, .int .i64 140, .int .i64 1, .int .i64 5, .int .i64 140, .int .i64 275] 38)
  have hh4 := heap_alloc_new w2 (.cells #[.int .i64 0, .int .i64 5, .int .i64 5, .int .i64 140, .int .i64 1, .int .i64 5, .int .i64 140, .int .i64 275] 38)
  have HB4 := Hid.mk (bl2 HB3.out hb4)
  have HEQ := Hid.mk (equalSl_true b (some ⟨w2.heap.size, 0, none⟩) 2 d 2 (Sb.cT twoT) twoS (w2.alloc (.cells #[.int .i64 0, .int .i64 5, .int .i64 5, .int .i64 140, .int .i64 1, .int .i64 5, .int .i64 140, .int .i64 275] 38)) (hI.kept hb4) ⟨rfl, fun e => (by cases e), fun x hx i hi => by
    cases hx
    have hi2 : i = 0 ∨ i = 1 := by omega
    rcases hi2 with rfl | rfl
    · exact ⟨cell_of_row _ _ 0 _ _ _ hh4, cell_of_row _ _ 1 _ _ _ hh4, cell_of_row _ _ 2 _ _ _ hh4, cell_of_row _ _ 3 _ _ _ hh4⟩
    · exact ⟨cell_of_row _ _ 4 _ _ _ hh4, cell_of_row _ _ 5 _ _ _ hh4, cell_of_row _ _ 6 _ _ _ hh4, cell_of_row _ _ 7 _ _ _ hh4⟩⟩ (by omega))
  clear hpi hI hb3 hb4 hh4 HP h2
  go_wp2_with fail
  refine HEQ.out.mono ?_
  rintro e w3 ⟨rfl, hb5⟩
  have HB5 := Hid.mk (bl2 HB4.out hb5)
  clear hb5 HEQ
  go_wp2_with fail
  go_ret
  exact ⟨rfl, HB5.out⟩
end Bw
end Go.Proofs.YtnhnemmddgofnaaDoor
