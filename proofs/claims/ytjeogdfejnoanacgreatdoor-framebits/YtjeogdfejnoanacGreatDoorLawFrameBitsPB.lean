/- Joined out of our texts: StuffAdd. -/
import Derived.Test.YtjeogdfejnoanacGreatDoorBase8
import Derived.Test.YtjeogdfejnoanacGreatDoorStuffMath
import Derived.OneCell
/- What the small parts of package stuff answer: the other bit, whether a length is one, and the run that takes a bit more. -/
namespace Go.Proofs.YtjeogdfejnoanacGreatDoor
open Go.ChangeShapes Go.WideShapes Go.ChangeAt Go.RowKit
namespace Bw
open Bm

/-- but for one block all is as it was -/
structure AtOnly (g : Nat) (w w' : World) : Prop where
  os : w'.os = w.os
  tape : w'.tape = w.tape
  output : w'.output = w.output
  size : w'.heap.size = w.heap.size
  block : ∀ k, k ≠ g → w'.heap[k]? = w.heap[k]?
theorem AtOnly.setCell (w : World) (a : Addr) (u : Value) : AtOnly a.block w (w.setCell a u) :=
  ⟨rfl, rfl, rfl, by simp [World.setCell], fun _ hk => Below.heap_setCell _ _ _ _ hk⟩
theorem AtOnly.trans {g : Nat} {a b c : World} (h : AtOnly g a b) (k : AtOnly g b c) : AtOnly g a c :=
  ⟨k.os.trans h.os, k.tape.trans h.tape, k.output.trans h.output, k.size.trans h.size, fun i hi => (k.block i hi).trans (h.block i hi)⟩
theorem AtOnly.below {g B : Nat} {w w' : World} (h : AtOnly g w w') (hB : B ≤ g) : Below B w w' :=
  ⟨h.os, h.tape, h.output, by rw [h.size]; exact Nat.le_refl _, fun k hk => h.block k (by omega)⟩
theorem AtOnly.owns {g : Nat} {w w' : World} (h : AtOnly g w w') {base : Nat} {e : TypeId} {size : Nat} {v : Value} {n : Nat} {xs : List Value} (ho : w.ownsRow base e size v n xs) (hb : g < base) : w'.ownsRow base e size v n xs := by
  obtain ⟨h1, h2⟩ := ho
  refine ⟨h1, ?_⟩
  rcases h2 with h2 | ⟨k, cap, cur, hv, hk, hh, r⟩
  · exact Or.inl h2
  · exact Or.inr ⟨k, cap, cur, hv, hk, by rw [h.block k (by omega)]; exact hh, r⟩

def isRun (w : World) (g : Nat) (p : UInt8 × Nat) : Prop := w.heap[g]? = some (.cells #[.int .u8 p.1.toNat, .int .i64 p.2] 75 (0, 0))
theorem two_set0 {w : World} {b : Nat} {v x u : Value} {t : TypeId} (h : w.heap[b]? = some (.cells #[v, x] t (0, 0))) : (w.setCell ⟨b, 0, none⟩ u).heap[b]? = some (.cells #[u, x] t (0, 0)) := by
  have hlt := lt_of_block h
  have h' : w.heap[b] = .cells #[v, x] t (0, 0) := by simpa [Array.getElem?_eq_getElem hlt] using h
  show (w.heap.modify b _)[b]? = _
  rw [Array.getElem?_eq_getElem (by simpa using hlt), Array.getElem_modify_self, h']
  rfl
theorem two_set1 {w : World} {b : Nat} {v x u : Value} {t : TypeId} (h : w.heap[b]? = some (.cells #[v, x] t (0, 0))) : (w.setCell ⟨b, 1, none⟩ u).heap[b]? = some (.cells #[v, u] t (0, 0)) := by
  have hlt := lt_of_block h
  have h' : w.heap[b] = .cells #[v, x] t (0, 0) := by simpa [Array.getElem?_eq_getElem hlt] using h
  show (w.heap.modify b _)[b]? = _
  rw [Array.getElem?_eq_getElem (by simpa using hlt), Array.getElem_modify_self, h']
  rfl

set_option maxHeartbeats 1000000 in
theorem otherS_any (c : UInt8) (w : World) (h : bit c = true) :
    Calls Tryz.prog 57 #[.int .u8 c.toNat] w fun e w' => e = .returned (.int .u8 (otb c).toNat) ∧ w' = w := by
  rcases (bit_iff c).1 h with h | h
  · have : c = 48 := UInt8.toNat_inj.1 (by show c.toNat = 48; omega)
    subst this
    go_enter Tryz.func57, Tryz.ntmps57
    go_wp2; go_ret; exact ⟨rfl, rfl⟩
  · have : c = 49 := UInt8.toNat_inj.1 (by show c.toNat = 49; omega)
    subst this
    go_enter Tryz.func57, Tryz.ntmps57
    go_wp2; go_ret; exact ⟨rfl, rfl⟩

set_option maxHeartbeats 2000000 in
theorem add_same (g : Nat) (c : UInt8) (n : Nat) (w : World) (hn : n ≤ 1000) (hg : isRun w g (c, n)) :
    Calls Tryz.prog 56 #[.pointer (some ⟨g, 0, none⟩), .int .u8 c.toNat] w fun e w' => e = .returned (.bool ((n : Int) + 1 == 5)) ∧ isRun w' g (c, n + 1) ∧ AtOnly g w w' := by
  unfold isRun at *
  have c0 := cell_of_row w g 0 _ _ _ hg
  have c1 := cell_of_row w g 1 _ _ _ hg
  have f0 : w.frozen? ⟨g, 0, none⟩ = false := by simp [World.frozen?, hg]
  have f1 : w.frozen? ⟨g, 1, none⟩ = false := by simp [World.frozen?, hg]
  simp at c0 c1
  have HG := Hid.mk hg
  clear hg
  go_enter Tryz.func56, Tryz.ntmps56
  go_wp2
  go_ret
  exact ⟨rfl, two_set1 HG.out, AtOnly.setCell w ⟨g, 1, none⟩ _⟩

set_option maxHeartbeats 2000000 in
theorem add_other (g : Nat) (d c : UInt8) (n : Nat) (w : World) (hne : c ≠ d) (hg : isRun w g (d, n)) :
    Calls Tryz.prog 56 #[.pointer (some ⟨g, 0, none⟩), .int .u8 c.toNat] w fun e w' => e = .returned (.bool false) ∧ isRun w' g (c, 1) ∧ AtOnly g w w' := by
  unfold isRun at *
  have c0 := cell_of_row w g 0 _ _ _ hg
  have c1 := cell_of_row w g 1 _ _ _ hg
  have f0 : w.frozen? ⟨g, 0, none⟩ = false := by simp [World.frozen?, hg]
  have f1 : w.frozen? ⟨g, 1, none⟩ = false := by simp [World.frozen?, hg]
  have hne' : ((c.toNat : Int) == (d.toNat : Int)) = false := by
    have : c.toNat ≠ d.toNat := fun h => hne (UInt8.toNat_inj.1 h)
    rw [beq_eq_false_iff_ne]; omega
  have c2 := cell_of_row _ g 1 _ _ _ (two_set1 (u := .int .i64 1) (two_set1 (u := .int .i64 0) (two_set0 (u := .int .u8 c.toNat) hg)))
  simp only [List.getElem?_toArray, List.getElem?_cons_succ, List.getElem?_cons_zero] at c2
  simp at c0 c1
  have HG := Hid.mk hg
  clear hg hne
  go_enter Tryz.func56, Tryz.ntmps56
  go_wp2
  go_ret
  exact ⟨rfl, two_set1 (two_set1 (two_set0 HG.out)), ((AtOnly.setCell w ⟨g, 0, none⟩ _).trans (AtOnly.setCell _ ⟨g, 1, none⟩ _)).trans (AtOnly.setCell _ ⟨g, 1, none⟩ _)⟩

theorem add_any (g : Nat) (p : UInt8 × Nat) (c : UInt8) (w : World) (hn : p.2 ≤ 1000) (hg : isRun w g p) :
    Calls Tryz.prog 56 #[.pointer (some ⟨g, 0, none⟩), .int .u8 c.toNat] w fun e w' => e = .returned (.bool ((addR p c).2 == 5)) ∧ isRun w' g (addR p c) ∧ AtOnly g w w' := by
  by_cases h : c = p.1
  · subst h
    rw [addR_same]
    refine (add_same g p.1 p.2 w hn hg).mono ?_
    rintro e w' ⟨rfl, h1, h2⟩
    refine ⟨?_, h1, h2⟩
    congr 2
    rw [Bool.eq_iff_iff]
    simp only [beq_iff_eq]
    omega
  · rw [addR_other h]
    exact add_other g p.1 c p.2 w h hg

set_option maxHeartbeats 400000 in
theorem isLength_yes (n : Int) (w : World) (h0 : 0 ≤ n) (h1 : n ≤ 1000) :
    Calls Tryz.prog 120 #[.int .i64 n] w fun e w' => e = .returned (.bool true) ∧ w' = w := by
  go_enter Tryz.func120, Tryz.ntmps120
  go_wp2; go_ret; exact ⟨rfl, rfl⟩
set_option maxHeartbeats 400000 in
theorem isLength_no (n : Int) (w : World) (h : n < 0 ∨ 1000 < n) :
    Calls Tryz.prog 120 #[.int .i64 n] w fun e w' => e = .returned (.bool false) ∧ w' = w := by
  by_cases h0 : n < 0
  · clear h
    go_enter Tryz.func120, Tryz.ntmps120
    go_wp2; go_ret; exact ⟨rfl, rfl⟩
  · have h1 : 1000 < n := by omega
    have h2 : 0 ≤ n := by omega
    have h3 : decide (n ≤ 1000) = false := by simpa using h1
    clear h h0
    go_enter Tryz.func120, Tryz.ntmps120
    go_wp2; go_ret; exact ⟨rfl, rfl⟩
end Bw
end Go.Proofs.YtjeogdfejnoanacGreatDoor
