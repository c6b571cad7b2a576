/- What frame.bit answers. -/
import Derived.Test.YtnhnemmddgofnaaDoorC1
import Derived.Test.YtnhnemmddgofnaaDoorC2
namespace Go.Proofs.YtnhnemmddgofnaaDoor
open Go.ChangeShapes Go.WideShapes Go.ChangeAt Go.RowKit
namespace Bw
open Bm Cm

/-- block g begins with these numbers -/
def IntsAt (w : World) (g : Nat) (xs : List Int) : Prop := ∀ i, i < xs.length → w.cell? ⟨g, i, none⟩ = some (.int .i64 (xs.getD i 0))
/-- where v stands first, or -1 -/
def idxI : List Int → Int → Int
  | [], _ => -1
  | x :: xs, v => if x = v then 0 else if idxI xs v = -1 then -1 else idxI xs v + 1
theorem idxI_ge (xs : List Int) (v : Int) : -1 ≤ idxI xs v ∧ idxI xs v < xs.length := by
  induction xs with
  | nil => simp [idxI]
  | cons x xs ih =>
    rw [idxI, List.length_cons]
    split
    · omega
    · split <;> omega
theorem idxI_app (a b : List Int) (v : Int) (h : v ∉ a) : idxI (a ++ b) v = if idxI b v = -1 then -1 else idxI b v + a.length := by
  induction a with
  | nil => simp
  | cons x a ih =>
    have h1 : x ≠ v := fun e => h (by rw [e]; exact List.mem_cons_self)
    have h2 : v ∉ a := fun e => h (List.mem_cons_of_mem _ e)
    have hb := idxI_ge b v
    rw [List.cons_append, idxI, if_neg h1, ih h2, List.length_cons]
    split
    · simp
    · rw [if_neg (by omega)]; omega
theorem idxI_at (a b : List Int) (v : Int) (h : v ∉ a) : idxI (a ++ v :: b) v = a.length := by
  rw [idxI_app a _ v h, idxI, if_pos rfl]; simp
theorem idxI_none (a : List Int) (v : Int) (h : v ∉ a) : idxI a v = -1 := by
  have := idxI_app a [] v h
  simpa [idxI] using this

theorem first_of {xs : List Int} {v : Int} (h : v ∈ xs) : ∃ a b, xs = a ++ v :: b ∧ v ∉ a := by
  induction xs with
  | nil => cases h
  | cons x xs ih =>
    by_cases e : x = v
    · exact ⟨[], xs, by rw [e]; rfl, by simp⟩
    · have h' : v ∈ xs := by
        rcases List.mem_cons.1 h with h | h
        · exact absurd h.symm e
        · exact h
      obtain ⟨a, b, rfl, ha⟩ := ih h'
      exact ⟨x :: a, b, rfl, by
        intro hm
        rcases List.mem_cons.1 hm with hm | hm
        · exact e hm.symm
        · exact ha hm⟩

def sizesI : List Int := sizesL.map fun (n : Nat) => (n : Int)
theorem idx_sizes {n : Nat} (h : n ∈ sizesL) : idxI sizesI (n : Int) = ((sizesL.idxOf n : Nat) : Int) ∧ sizesL.idxOf n < 16 := by
  have : ∀ m ∈ sizesL, idxI sizesI (m : Int) = ((sizesL.idxOf m : Nat) : Int) ∧ sizesL.idxOf m < 16 := by decide +kernel
  exact this n h
end Bw
end Go.Proofs.YtnhnemmddgofnaaDoor
namespace Go.Proofs.YtnhnemmddgofnaaDoor
open Go.ChangeShapes Go.WideShapes Go.ChangeAt Go.RowKit
namespace Bw
open Bm Cm

/-- the table of the numbers of bytes -/
def SizesAt (w : World) : Prop := IntsAt w 1 sizesI
theorem SizesAt.kept {w w' : World} (h : SizesAt w) (hb : Below w.heap.size w w') : SizesAt w' := fun i hi => cell_kept hb (h i hi)
set_option maxHeartbeats 1000000 in
theorem maxID_any (lo : Bool) (w : World) :
    Calls Tryd.prog 56 #[.bool lo] w fun e w' => e = .returned (.int .i64 (topI lo)) ∧ w' = w := by
  cases lo <;> (go_enter Tryd.func56, Tryd.ntmps56; go_wp2_with fail; go_ret; exact ⟨rfl, rfl⟩)
def topDI (fa : Bool) : Int := if fa then 64 else 8
set_option maxHeartbeats 1000000 in
theorem maxData_any (fa : Bool) (w : World) :
    Calls Tryd.prog 57 #[.bool fa] w fun e w' => e = .returned (.int .i64 (topDI fa)) ∧ w' = w := by
  cases fa <;> (go_enter Tryd.func57, Tryd.ntmps57; go_wp2_with fail; go_ret; exact ⟨rfl, rfl⟩)
theorem mem_take_succ (n : Int) (j : Nat) (hj : j < 16) (h : n ∉ sizesI.take j) (hn : n ≠ sizesI.getD j 0) : n ∉ sizesI.take (j + 1) := by
  have hl : j < sizesI.length := hj
  rw [List.take_succ_eq_append_getElem hl, List.mem_append, List.mem_singleton]
  rintro (h' | h')
  · exact h h'
  · exact hn (by rw [h']; simp [List.getD, hl])
theorem idx_at (n : Int) (j : Nat) (hj : j < 16) (h : n ∉ sizesI.take j) (hn : n = sizesI.getD j 0) : idxI sizesI n = j := by
  have hl : j < sizesI.length := hj
  have e1 : sizesI = sizesI.take j ++ sizesI.drop j := (List.take_append_drop j sizesI).symm
  have e2 : sizesI.drop j = n :: sizesI.drop (j + 1) := by rw [List.drop_eq_getElem_cons hl, hn]; simp [List.getD, hl]
  have e3 := idxI_at (sizesI.take j) (sizesI.drop (j + 1)) n h
  rw [← e2, ← e1, List.length_take] at e3
  omega
theorem sizes_index (j : Nat) (hj : j < 16) (W : World) : (Instr.index 119 (.agg #[.int .i64 0, .int .i64 1, .int .i64 2, .int .i64 3, .int .i64 4, .int .i64 5, .int .i64 6, .int .i64 7, .int .i64 8, .int .i64 12, .int .i64 16, .int .i64 20, .int .i64 24, .int .i64 32, .int .i64 48, .int .i64 64]) (.int .i64 (j : Int))).run Tryd.prog W = .ok (.int .i64 (sizesI.getD j 0)) W := by
  match j, hj with
  | 0, _ => (show _ = _); kernel_rfl
  | 1, _ => (show _ = _); kernel_rfl
  | 2, _ => (show _ = _); kernel_rfl
  | 3, _ => (show _ = _); kernel_rfl
  | 4, _ => (show _ = _); kernel_rfl
  | 5, _ => (show _ = _); kernel_rfl
  | 6, _ => (show _ = _); kernel_rfl
  | 7, _ => (show _ = _); kernel_rfl
  | 8, _ => (show _ = _); kernel_rfl
  | 9, _ => (show _ = _); kernel_rfl
  | 10, _ => (show _ = _); kernel_rfl
  | 11, _ => (show _ = _); kernel_rfl
  | 12, _ => (show _ = _); kernel_rfl
  | 13, _ => (show _ = _); kernel_rfl
  | 14, _ => (show _ = _); kernel_rfl
  | 15, _ => (show _ = _); kernel_rfl
  | n + 16, h => exact absurd h (by omega)
set_option maxHeartbeats 4000000 in
theorem codeOf_any (n : Int) (w : World) (hS : SizesAt w) :
    Calls Tryd.prog 58 #[.int .i64 n] w fun e w' => e = .returned (.int .i64 (idxI sizesI n)) ∧ w' = w := by
  have c0 : w.cell? ⟨1, 0, none⟩ = some (.int .i64 0) := hS 0 (by decide)
  have c1 : w.cell? ⟨1, 1, none⟩ = some (.int .i64 1) := hS 1 (by decide)
  have c2 : w.cell? ⟨1, 2, none⟩ = some (.int .i64 2) := hS 2 (by decide)
  have c3 : w.cell? ⟨1, 3, none⟩ = some (.int .i64 3) := hS 3 (by decide)
  have c4 : w.cell? ⟨1, 4, none⟩ = some (.int .i64 4) := hS 4 (by decide)
  have c5 : w.cell? ⟨1, 5, none⟩ = some (.int .i64 5) := hS 5 (by decide)
  have c6 : w.cell? ⟨1, 6, none⟩ = some (.int .i64 6) := hS 6 (by decide)
  have c7 : w.cell? ⟨1, 7, none⟩ = some (.int .i64 7) := hS 7 (by decide)
  have c8 : w.cell? ⟨1, 8, none⟩ = some (.int .i64 8) := hS 8 (by decide)
  have c9 : w.cell? ⟨1, 9, none⟩ = some (.int .i64 12) := hS 9 (by decide)
  have c10 : w.cell? ⟨1, 10, none⟩ = some (.int .i64 16) := hS 10 (by decide)
  have c11 : w.cell? ⟨1, 11, none⟩ = some (.int .i64 20) := hS 11 (by decide)
  have c12 : w.cell? ⟨1, 12, none⟩ = some (.int .i64 24) := hS 12 (by decide)
  have c13 : w.cell? ⟨1, 13, none⟩ = some (.int .i64 32) := hS 13 (by decide)
  have c14 : w.cell? ⟨1, 14, none⟩ = some (.int .i64 48) := hS 14 (by decide)
  have c15 : w.cell? ⟨1, 15, none⟩ = some (.int .i64 64) := hS 15 (by decide)
  clear hS
  go_enter Tryd.func58, Tryd.ntmps58
  set_option maxRecDepth 100000 in
  go_wp2_with fail
  clear c0 c1 c2 c3 c4 c5 c6 c7 c8 c9 c10 c11 c12 c13 c14 c15
  go_loopw [6] (fun i wr => ∃ j : Nat, j ≤ 16 ∧ i = .int .i64 j ∧ Hid (n ∉ sizesI.take j) ∧ wr = w) (fun i _ => 16 - (intOf i).toNat)
  case atStart => exact ⟨0, Nat.zero_le _, rfl, Hid.mk (by simp), rfl⟩
  case round =>
    obtain ⟨j, hj, rfl, HV, hwr⟩ := hrel
    subst hwr
    by_cases hlt : j < 16
    · have hlt' : (j : Int) < 16 := by omega
      have hix := sizes_index j hlt
      by_cases he : sizesI.getD j 0 = n
      · have hb : (sizesI.getD j 0 == n) = true := by rw [he]; simp
        have HRES := Hid.mk (idx_at n j hlt HV.out he.symm)
        clear he
        generalize sizesI.getD j 0 = y at *
        go_wp2_with fail
        go_ret
        exact ⟨by rw [HRES.out]; rfl, rfl⟩
      · have hb : (sizesI.getD j 0 == n) = false := by simpa using he
        have HNX := Hid.mk (mem_take_succ n j hlt HV.out (fun h => he h.symm))
        clear he
        generalize sizesI.getD j 0 = y at *
        go_wp2_with fail
        go_roundw
        case rel => exact ⟨j + 1, by omega, by go_num, HNX, by first | rfl | trivial⟩
        case measure => simp [intOf]; omega
    · have e : j = 16 := by omega
      subst e
      have hres : idxI sizesI n = -1 := idxI_none sizesI n HV.out
      have HRES := Hid.mk hres
      clear hres
      go_wp2_with fail
      go_ret
      exact ⟨by rw [HRES.out]; rfl, rfl⟩
end Bw
end Go.Proofs.YtnhnemmddgofnaaDoor
namespace Go.Proofs.YtnhnemmddgofnaaDoor
open Go.ChangeShapes Go.WideShapes Go.ChangeAt Go.RowKit
namespace Bw
open Bm Cm
set_option maxHeartbeats 1000000 in
theorem frBit_any (r : Bool) (w : World) :
    Calls Tryd.prog 76 #[.bool r] w fun e w' => e = .returned (.string ⟨#[bitB r]⟩) ∧ w' = w := by
  cases r <;> (go_enter Tryd.func76, Tryd.ntmps76; go_wp2_with fail; go_ret; exact ⟨rfl, rfl⟩)
end Bw
end Go.Proofs.YtnhnemmddgofnaaDoor
