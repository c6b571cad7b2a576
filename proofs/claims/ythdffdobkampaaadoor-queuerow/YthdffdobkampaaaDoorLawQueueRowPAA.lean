/- Joined out of our texts: FrameOk, IdxMath, FrSmall, FrCheck, RefIs, FramesOpen, TchKit, QLine, WireMath, WireLeast, QMath. -/
import Derived.Test.YthdffdobkampaaaDoorLawQueueRowRAF
import Derived.Test.YthdffdobkampaaaDoorLawQueueRowRAB
import Derived.Test.YthdffdobkampaaaDoorLawQueueRowRAI
import Derived.Test.YthdffdobkampaaaDoorLawQueueRowRAA
import Derived.Deep.MidRow
import Derived.Laws.CopyRow
import Derived.Test.YthdffdobkampaaaDoorBitsMath
/- What it says of a frame that it is right; of no program. -/
namespace Go.Proofs.YthdffdobkampaaaDoor
namespace Bw
open Bm Cm
theorem frE_ok {f : Fr} (h : frE f = 0) : 0 ≤ f.id ∧ f.id ≤ topI f.lo ∧ (f.re = true → f.fa = false ∧ f.dt.length = 0) ∧ 0 ≤ f.sz ∧ f.sz ≤ 8 ∧ (f.re = false → f.sz = 0) ∧ f.dt.length ≤ 64 ∧ (f.fa = false → f.dt.length ≤ 8) ∧ f.dt.length ∈ sizesL := by
  obtain ⟨id, lo, fa, re, sz, dt⟩ := f
  unfold frE frEn at h
  simp only at h ⊢
  split at h
  · cases h
  · split at h
    · cases h
    · split at h
      · cases h
      · split at h
        · cases h
        · split at h
          · rename_i h1 h2 h3 h4 h5
            refine ⟨by omega, by omega, fun hr => ?_, by omega, by omega, fun hr => ?_, by omega, fun hf => ?_, h5⟩
            · subst hr
              cases fa
              · exact ⟨rfl, by simpa using h2⟩
              · exact absurd ⟨rfl, .inl rfl⟩ h2
            · subst hr
              have : ¬ 0 < sz := fun h => h3 (.inr (.inr ⟨h, rfl⟩))
              omega
            · subst hf
              have : ¬ 8 < dt.length := fun h => h4 (.inr ⟨h, rfl⟩)
              omega
          · cases h
end Bw
end Go.Proofs.YthdffdobkampaaaDoor

/- Where a number stands first in a list; the numbers of bytes that a frame can have. -/
namespace Go.Proofs.YthdffdobkampaaaDoor
open Go.ChangeShapes Go.WideShapes Go.ChangeAt Go.RowKit
namespace Bw
open Bm Cm

/-- block g begins with these numbers -/
def IntsAt (w : World) (g : Nat) (xs : List Int) : Prop := ∀ i, i < xs.length → w.cell? ⟨g, i, none⟩ = some (.int .i64 (xs.getD i 0))
/-- where v stands first, or -1 -/
def idxI : List Int → Int → Int
  | [], _ => -1
  | x :: xs, v => if x = v then 0 else if idxI xs v = -1 then -1 else idxI xs v + 1
theorem idxI_ge (xs : List Int) (v : Int) : -1 ≤ idxI xs v ∧ idxI xs v < xs.length := by
  induction xs with
  | nil => simp [idxI]
  | cons x xs ih =>
    rw [idxI, List.length_cons]
    split
    · omega
    · split <;> omega
theorem idxI_app (a b : List Int) (v : Int) (h : v ∉ a) : idxI (a ++ b) v = if idxI b v = -1 then -1 else idxI b v + a.length := by
  induction a with
  | nil => simp
  | cons x a ih =>
    have h1 : x ≠ v := fun e => h (by rw [e]; exact List.mem_cons_self)
    have h2 : v ∉ a := fun e => h (List.mem_cons_of_mem _ e)
    have hb := idxI_ge b v
    rw [List.cons_append, idxI, if_neg h1, ih h2, List.length_cons]
    split
    · simp
    · rw [if_neg (by omega)]; omega
theorem idxI_at (a b : List Int) (v : Int) (h : v ∉ a) : idxI (a ++ v :: b) v = a.length := by
  rw [idxI_app a _ v h, idxI, if_pos rfl]; simp
theorem idxI_none (a : List Int) (v : Int) (h : v ∉ a) : idxI a v = -1 := by
  have := idxI_app a [] v h
  simpa [idxI] using this

theorem first_of {xs : List Int} {v : Int} (h : v ∈ xs) : ∃ a b, xs = a ++ v :: b ∧ v ∉ a := by
  induction xs with
  | nil => cases h
  | cons x xs ih =>
    by_cases e : x = v
    · exact ⟨[], xs, by rw [e]; rfl, by simp⟩
    · have h' : v ∈ xs := by
        rcases List.mem_cons.1 h with h | h
        · exact absurd h.symm e
        · exact h
      obtain ⟨a, b, rfl, ha⟩ := ih h'
      exact ⟨x :: a, b, rfl, by
        intro hm
        rcases List.mem_cons.1 hm with hm | hm
        · exact e hm.symm
        · exact ha hm⟩

def sizesI : List Int := sizesL.map fun (n : Nat) => (n : Int)
theorem idx_sizes {n : Nat} (h : n ∈ sizesL) : idxI sizesI (n : Int) = ((sizesL.idxOf n : Nat) : Int) ∧ sizesL.idxOf n < 16 := by
  have : ∀ m ∈ sizesL, idxI sizesI (m : Int) = ((sizesL.idxOf m : Nat) : Int) ∧ sizesL.idxOf m < 16 := by decide +kernel
  exact this n h
end Bw
end Go.Proofs.YthdffdobkampaaaDoor

/- What the small functions of package frame answer: the greatest numbers, a bit, the code of a number of bytes. -/
namespace Go.Proofs.YthdffdobkampaaaDoor
open Go.ChangeShapes Go.WideShapes Go.ChangeAt Go.RowKit
namespace Bw
open Bm Cm

/-- the table of the numbers of bytes -/
def SizesAt (w : World) : Prop := IntsAt w 1 sizesI
theorem SizesAt.kept {w w' : World} (h : SizesAt w) (hb : Below w.heap.size w w') : SizesAt w' := fun i hi => cell_kept hb (h i hi)
set_option maxHeartbeats 1000000 in
theorem maxID_any (lo : Bool) (w : World) :
    Calls Tryd.prog 53 #[.bool lo] w fun e w' => e = .returned (.int .i64 (topI lo)) ∧ w' = w := by
  cases lo <;> (go_enter Tryd.func53, Tryd.ntmps53; go_wp2_with fail; go_ret; exact ⟨rfl, rfl⟩)
def topDI (fa : Bool) : Int := if fa then 64 else 8
set_option maxHeartbeats 1000000 in
theorem maxData_any (fa : Bool) (w : World) :
    Calls Tryd.prog 54 #[.bool fa] w fun e w' => e = .returned (.int .i64 (topDI fa)) ∧ w' = w := by
  cases fa <;> (go_enter Tryd.func54, Tryd.ntmps54; go_wp2_with fail; go_ret; exact ⟨rfl, rfl⟩)
theorem mem_take_succ (n : Int) (j : Nat) (hj : j < 16) (h : n ∉ sizesI.take j) (hn : n ≠ sizesI.getD j 0) : n ∉ sizesI.take (j + 1) := by
  have hl : j < sizesI.length := hj
  rw [List.take_succ_eq_append_getElem hl, List.mem_append, List.mem_singleton]
  rintro (h' | h')
  · exact h h'
  · exact hn (by rw [h']; simp [List.getD, hl])
theorem idx_at (n : Int) (j : Nat) (hj : j < 16) (h : n ∉ sizesI.take j) (hn : n = sizesI.getD j 0) : idxI sizesI n = j := by
  have hl : j < sizesI.length := hj
  have e1 : sizesI = sizesI.take j ++ sizesI.drop j := (List.take_append_drop j sizesI).symm
  have e2 : sizesI.drop j = n :: sizesI.drop (j + 1) := by rw [List.drop_eq_getElem_cons hl, hn]; simp [List.getD, hl]
  have e3 := idxI_at (sizesI.take j) (sizesI.drop (j + 1)) n h
  rw [← e2, ← e1, List.length_take] at e3
  omega
theorem sizes_index (j : Nat) (hj : j < 16) (W : World) : (Instr.index 97 (.agg #[.int .i64 0, .int .i64 1, .int .i64 2, .int .i64 3, .int .i64 4, .int .i64 5, .int .i64 6, .int .i64 7, .int .i64 8, .int .i64 12, .int .i64 16, .int .i64 20, .int .i64 24, .int .i64 32, .int .i64 48, .int .i64 64]) (.int .i64 (j : Int))).run Tryd.prog W = .ok (.int .i64 (sizesI.getD j 0)) W := by
  match j, hj with
  | 0, _ => (show _ = _); kernel_rfl
  | 1, _ => (show _ = _); kernel_rfl
  | 2, _ => (show _ = _); kernel_rfl
  | 3, _ => (show _ = _); kernel_rfl
  | 4, _ => (show _ = _); kernel_rfl
  | 5, _ => (show _ = _); kernel_rfl
  | 6, _ => (show _ = _); kernel_rfl
  | 7, _ => (show _ = _); kernel_rfl
  | 8, _ => (show _ = _); kernel_rfl
  | 9, _ => (show _ = _); kernel_rfl
  | 10, _ => (show _ = _); kernel_rfl
  | 11, _ => (show _ = _); kernel_rfl
  | 12, _ => (show _ = _); kernel_rfl
  | 13, _ => (show _ = _); kernel_rfl
  | 14, _ => (show _ = _); kernel_rfl
  | 15, _ => (show _ = _); kernel_rfl
  | n + 16, h => exact absurd h (by omega)
set_option maxHeartbeats 4000000 in
theorem codeOf_any (n : Int) (w : World) (hS : SizesAt w) :
    Calls Tryd.prog 55 #[.int .i64 n] w fun e w' => e = .returned (.int .i64 (idxI sizesI n)) ∧ w' = w := by
  have c0 : w.cell? ⟨1, 0, none⟩ = some (.int .i64 0) := hS 0 (by decide)
  have c1 : w.cell? ⟨1, 1, none⟩ = some (.int .i64 1) := hS 1 (by decide)
  have c2 : w.cell? ⟨1, 2, none⟩ = some (.int .i64 2) := hS 2 (by decide)
  have c3 : w.cell? ⟨1, 3, none⟩ = some (.int .i64 3) := hS 3 (by decide)
  have c4 : w.cell? ⟨1, 4, none⟩ = some (.int .i64 4) := hS 4 (by decide)
  have c5 : w.cell? ⟨1, 5, none⟩ = some (.int .i64 5) := hS 5 (by decide)
  have c6 : w.cell? ⟨1, 6, none⟩ = some (.int .i64 6) := hS 6 (by decide)
  have c7 : w.cell? ⟨1, 7, none⟩ = some (.int .i64 7) := hS 7 (by decide)
  have c8 : w.cell? ⟨1, 8, none⟩ = some (.int .i64 8) := hS 8 (by decide)
  have c9 : w.cell? ⟨1, 9, none⟩ = some (.int .i64 12) := hS 9 (by decide)
  have c10 : w.cell? ⟨1, 10, none⟩ = some (.int .i64 16) := hS 10 (by decide)
  have c11 : w.cell? ⟨1, 11, none⟩ = some (.int .i64 20) := hS 11 (by decide)
  have c12 : w.cell? ⟨1, 12, none⟩ = some (.int .i64 24) := hS 12 (by decide)
  have c13 : w.cell? ⟨1, 13, none⟩ = some (.int .i64 32) := hS 13 (by decide)
  have c14 : w.cell? ⟨1, 14, none⟩ = some (.int .i64 48) := hS 14 (by decide)
  have c15 : w.cell? ⟨1, 15, none⟩ = some (.int .i64 64) := hS 15 (by decide)
  clear hS
  go_enter Tryd.func55, Tryd.ntmps55
  set_option maxRecDepth 100000 in
  go_wp2_with fail
  clear c0 c1 c2 c3 c4 c5 c6 c7 c8 c9 c10 c11 c12 c13 c14 c15
  go_loopw [6] (fun i wr => ∃ j : Nat, j ≤ 16 ∧ i = .int .i64 j ∧ Hid (n ∉ sizesI.take j) ∧ wr = w) (fun i _ => 16 - (intOf i).toNat)
  case atStart => exact ⟨0, Nat.zero_le _, rfl, Hid.mk (by simp), rfl⟩
  case round =>
    obtain ⟨j, hj, rfl, HV, hwr⟩ := hrel
    subst hwr
    by_cases hlt : j < 16
    · have hlt' : (j : Int) < 16 := by omega
      have hix := sizes_index j hlt
      by_cases he : sizesI.getD j 0 = n
      · have hb : (sizesI.getD j 0 == n) = true := by rw [he]; simp
        have HRES := Hid.mk (idx_at n j hlt HV.out he.symm)
        clear he
        generalize sizesI.getD j 0 = y at *
        go_wp2_with fail
        go_ret
        exact ⟨by rw [HRES.out]; rfl, rfl⟩
      · have hb : (sizesI.getD j 0 == n) = false := by simpa using he
        have HNX := Hid.mk (mem_take_succ n j hlt HV.out (fun h => he h.symm))
        clear he
        generalize sizesI.getD j 0 = y at *
        go_wp2_with fail
        go_roundw
        case rel => exact ⟨j + 1, by omega, by go_num, HNX, by first | rfl | trivial⟩
        case measure => simp [intOf]; omega
    · have e : j = 16 := by omega
      subst e
      have hres : idxI sizesI n = -1 := idxI_none sizesI n HV.out
      have HRES := Hid.mk hres
      clear hres
      go_wp2_with fail
      go_ret
      exact ⟨by rw [HRES.out]; rfl, rfl⟩
end Bw
end Go.Proofs.YthdffdobkampaaaDoor

/- What frame.Check answers of any frame. -/
namespace Go.Proofs.YthdffdobkampaaaDoor
open Go.ChangeShapes Go.WideShapes Go.ChangeAt Go.RowKit
namespace Bw
open Bm Cm

set_option linter.unusedVariables false
theorem idx_neg (n : Nat) : idxI sizesI (n : Int) < 0 ↔ n ∉ sizesL := by
  constructor
  · intro h hm
    have := (idx_sizes hm).1
    omega
  · intro h
    rw [idxI_none]
    · omega
    · intro hm
      apply h
      unfold sizesI at hm
      obtain ⟨m, h1, h2⟩ := List.mem_map.1 hm
      have : m = n := by omega
      rw [← this]; exact h1
theorem below_dr {w a : World} (h : Below w.heap.size w a) (n : Nat) : Below w.heap.size w (a.drewN n) := bl2 h ⟨rfl, rfl, rfl, Nat.le_refl _, fun _ _ => rfl⟩
def frameC (id : Int) (lo fa re : Bool) (sz : Int) (a : Option Addr) (len cap : Nat) : Obj := .cells #[.int .i64 id, .bool lo, .bool fa, .bool re, .int .i64 sz, .slice a len cap] 25
/-- block g holds a frame -/
structure FrAt (w : World) (g : Nat) (id : Int) (lo fa re : Bool) (sz : Int) (a : Option Addr) (len cap : Nat) : Prop where
  c0 : w.cell? ⟨g, 0, none⟩ = some (.int .i64 id)
  c1 : w.cell? ⟨g, 1, none⟩ = some (.bool lo)
  c2 : w.cell? ⟨g, 2, none⟩ = some (.bool fa)
  c3 : w.cell? ⟨g, 3, none⟩ = some (.bool re)
  c4 : w.cell? ⟨g, 4, none⟩ = some (.int .i64 sz)
  c5 : w.cell? ⟨g, 5, none⟩ = some (.slice a len cap)
theorem FrAt.kept {w w' : World} {g : Nat} {id : Int} {lo fa re : Bool} {sz : Int} {a : Option Addr} {len cap : Nat} (h : FrAt w g id lo fa re sz a len cap) (hb : Below w.heap.size w w') : FrAt w' g id lo fa re sz a len cap :=
  ⟨cell_kept hb h.c0, cell_kept hb h.c1, cell_kept hb h.c2, cell_kept hb h.c3, cell_kept hb h.c4, cell_kept hb h.c5⟩
theorem FrAt.box (w : World) (id : Int) (lo fa re : Bool) (sz : Int) (a : Option Addr) (len cap : Nat) : FrAt (w.alloc (frameC id lo fa re sz a len cap)) w.heap.size id lo fa re sz a len cap := by
  have h := fun j => cell_of_row (w.alloc (frameC id lo fa re sz a len cap)) w.heap.size j _ _ _ (heap_alloc_new w _)
  exact ⟨h 0, h 1, h 2, h 3, h 4, h 5⟩
theorem below_box (w : World) (id : Int) (lo fa re : Bool) (sz : Int) (a : Option Addr) (len cap : Nat) : Below w.heap.size w (w.alloc (frameC id lo fa re sz a len cap)) := (Below.refl _ _).alloc (Nat.le_refl _) _

set_option maxHeartbeats 4000000 in
theorem ck_low (id : Int) (lo fa re : Bool) (sz : Int) (a : Option Addr) (len cap : Nat) (w : World) (h0 : id < 0) :
    Calls Tryd.prog 42 #[frameV id lo fa re sz a len cap] w fun e w' => e = .returned (.int .i64 3) ∧ Below w.heap.size w w' := by
  have hd0 : decide (id < 0) = true := by simpa using h0
  have hB := below_box w id lo fa re sz a len cap
  unfold frameC at hB
  unfold frameV
  go_enter Tryd.func42, Tryd.ntmps42
  go_wp2_with fail
  go_quiet (fail)
  go_wp2_with fail
  go_ret
  exact ⟨rfl, below_dr hB _⟩
set_option maxHeartbeats 4000000 in
theorem ck_high (id : Int) (lo fa re : Bool) (sz : Int) (a : Option Addr) (len cap : Nat) (w : World) (h0 : 0 ≤ id) (h2 : topI lo < id) :
    Calls Tryd.prog 42 #[frameV id lo fa re sz a len cap] w fun e w' => e = .returned (.int .i64 3) ∧ Below w.heap.size w w' := by
  have hd0 : decide (id < 0) = false := by simp; omega
  have hB := below_box w id lo fa re sz a len cap
  unfold frameC at hB
  unfold frameV
  go_enter Tryd.func42, Tryd.ntmps42
  go_wp2_with fail
  go_quiet ((go_at_call 53; refine Calls.quiet_of_same (maxID_any lo _)))
  go_wp2_with fail
  go_ret
  exact ⟨rfl, below_dr hB _⟩
set_option maxHeartbeats 4000000 in
theorem ck_remF (id : Int) (lo : Bool) (sz : Int) (a : Option Addr) (len cap : Nat) (w : World) (hS : SizesAt w) (hlb : (len : Int) ≤ 9223372036854775807) (h0 : 0 ≤ id) (h2 : id ≤ topI lo)  :
    Calls Tryd.prog 42 #[frameV id lo true true sz a len cap] w fun e w' => e = .returned (.int .i64 4) ∧ Below w.heap.size w w' := by
  have hd0 : decide (id < 0) = false := by simp; omega
  have hB := below_box w id lo true true sz a len cap
  have hK := FrAt.box w id lo true true sz a len cap
  unfold frameC at hB hK
  unfold frameV
  go_enter Tryd.func42, Tryd.ntmps42
  go_wp2_with fail
  go_quiet ((go_at_call 53; refine Calls.quiet_of_same (maxID_any lo _)))
  obtain ⟨W1, hW1⟩ : ∃ W1, W1 = (w.alloc (.cells #[.int .i64 id, .bool lo, .bool true, .bool true, .int .i64 sz, .slice a len cap] 25)).drewN nq := ⟨_, rfl⟩
  have hB1 : Below w.heap.size w W1 := by rw [hW1]; exact below_dr hB nq
  have hK1 : FrAt W1 w.heap.size id lo true true sz a len cap := by rw [hW1]; exact hK.kept ⟨rfl, rfl, rfl, Nat.le_refl _, fun _ _ => rfl⟩
  rw [← hW1]
  obtain ⟨k0, k1, k2, k3, k4, k5⟩ := hK1
  clear hB hK hW1
  clear hS hlb
  go_wp2_with fail
  go_ret
  exact ⟨rfl, hB1⟩
set_option maxHeartbeats 4000000 in
theorem ck_remD (id : Int) (lo : Bool) (sz : Int) (a : Option Addr) (len cap : Nat) (w : World) (hS : SizesAt w) (hlb : (len : Int) ≤ 9223372036854775807) (h0 : 0 ≤ id) (h2 : id ≤ topI lo) (h3 : (0 : Int) < (len : Int)) :
    Calls Tryd.prog 42 #[frameV id lo false true sz a len cap] w fun e w' => e = .returned (.int .i64 4) ∧ Below w.heap.size w w' := by
  have hd0 : decide (id < 0) = false := by simp; omega
  have hB := below_box w id lo false true sz a len cap
  have hK := FrAt.box w id lo false true sz a len cap
  unfold frameC at hB hK
  unfold frameV
  go_enter Tryd.func42, Tryd.ntmps42
  go_wp2_with fail
  go_quiet ((go_at_call 53; refine Calls.quiet_of_same (maxID_any lo _)))
  obtain ⟨W1, hW1⟩ : ∃ W1, W1 = (w.alloc (.cells #[.int .i64 id, .bool lo, .bool false, .bool true, .int .i64 sz, .slice a len cap] 25)).drewN nq := ⟨_, rfl⟩
  have hB1 : Below w.heap.size w W1 := by rw [hW1]; exact below_dr hB nq
  have hK1 : FrAt W1 w.heap.size id lo false true sz a len cap := by rw [hW1]; exact hK.kept ⟨rfl, rfl, rfl, Nat.le_refl _, fun _ _ => rfl⟩
  rw [← hW1]
  obtain ⟨k0, k1, k2, k3, k4, k5⟩ := hK1
  clear hB hK hW1
  clear hS
  go_wp2_with fail
  go_ret
  exact ⟨rfl, hB1⟩
set_option maxHeartbeats 4000000 in
theorem ck_szL (id : Int) (lo fa : Bool) (sz : Int) (a : Option Addr) (len cap : Nat) (w : World) (hS : SizesAt w) (hlb : (len : Int) ≤ 9223372036854775807) (h0 : 0 ≤ id) (h2 : id ≤ topI lo) (h3 : sz < 0) :
    Calls Tryd.prog 42 #[frameV id lo fa false sz a len cap] w fun e w' => e = .returned (.int .i64 3) ∧ Below w.heap.size w w' := by
  have hd0 : decide (id < 0) = false := by simp; omega
  have hB := below_box w id lo fa false sz a len cap
  have hK := FrAt.box w id lo fa false sz a len cap
  unfold frameC at hB hK
  unfold frameV
  go_enter Tryd.func42, Tryd.ntmps42
  go_wp2_with fail
  go_quiet ((go_at_call 53; refine Calls.quiet_of_same (maxID_any lo _)))
  obtain ⟨W1, hW1⟩ : ∃ W1, W1 = (w.alloc (.cells #[.int .i64 id, .bool lo, .bool fa, .bool false, .int .i64 sz, .slice a len cap] 25)).drewN nq := ⟨_, rfl⟩
  have hB1 : Below w.heap.size w W1 := by rw [hW1]; exact below_dr hB nq
  have hK1 : FrAt W1 w.heap.size id lo fa false sz a len cap := by rw [hW1]; exact hK.kept ⟨rfl, rfl, rfl, Nat.le_refl _, fun _ _ => rfl⟩
  rw [← hW1]
  obtain ⟨k0, k1, k2, k3, k4, k5⟩ := hK1
  clear hB hK hW1
  clear hS hlb
  go_wp2_with fail
  go_ret
  exact ⟨rfl, hB1⟩
set_option maxHeartbeats 4000000 in
theorem ck_szH (id : Int) (lo fa : Bool) (sz : Int) (a : Option Addr) (len cap : Nat) (w : World) (hS : SizesAt w) (hlb : (len : Int) ≤ 9223372036854775807) (h0 : 0 ≤ id) (h2 : id ≤ topI lo) (h3 : 8 < sz) :
    Calls Tryd.prog 42 #[frameV id lo fa false sz a len cap] w fun e w' => e = .returned (.int .i64 3) ∧ Below w.heap.size w w' := by
  have hd0 : decide (id < 0) = false := by simp; omega
  have hB := below_box w id lo fa false sz a len cap
  have hK := FrAt.box w id lo fa false sz a len cap
  unfold frameC at hB hK
  unfold frameV
  go_enter Tryd.func42, Tryd.ntmps42
  go_wp2_with fail
  go_quiet ((go_at_call 53; refine Calls.quiet_of_same (maxID_any lo _)))
  obtain ⟨W1, hW1⟩ : ∃ W1, W1 = (w.alloc (.cells #[.int .i64 id, .bool lo, .bool fa, .bool false, .int .i64 sz, .slice a len cap] 25)).drewN nq := ⟨_, rfl⟩
  have hB1 : Below w.heap.size w W1 := by rw [hW1]; exact below_dr hB nq
  have hK1 : FrAt W1 w.heap.size id lo fa false sz a len cap := by rw [hW1]; exact hK.kept ⟨rfl, rfl, rfl, Nat.le_refl _, fun _ _ => rfl⟩
  rw [← hW1]
  obtain ⟨k0, k1, k2, k3, k4, k5⟩ := hK1
  clear hB hK hW1
  clear hS hlb
  go_wp2_with fail
  go_ret
  exact ⟨rfl, hB1⟩
set_option maxHeartbeats 4000000 in
theorem ck_szN (id : Int) (lo fa : Bool) (sz : Int) (a : Option Addr) (len cap : Nat) (w : World) (hS : SizesAt w) (hlb : (len : Int) ≤ 9223372036854775807) (h0 : 0 ≤ id) (h2 : id ≤ topI lo) (h3 : 0 < sz) (h4 : sz ≤ 8) :
    Calls Tryd.prog 42 #[frameV id lo fa false sz a len cap] w fun e w' => e = .returned (.int .i64 3) ∧ Below w.heap.size w w' := by
  have hd0 : decide (id < 0) = false := by simp; omega
  have hB := below_box w id lo fa false sz a len cap
  have hK := FrAt.box w id lo fa false sz a len cap
  unfold frameC at hB hK
  unfold frameV
  have h5 : (sz != 0) = true := by simp; omega
  go_enter Tryd.func42, Tryd.ntmps42
  go_wp2_with fail
  go_quiet ((go_at_call 53; refine Calls.quiet_of_same (maxID_any lo _)))
  obtain ⟨W1, hW1⟩ : ∃ W1, W1 = (w.alloc (.cells #[.int .i64 id, .bool lo, .bool fa, .bool false, .int .i64 sz, .slice a len cap] 25)).drewN nq := ⟨_, rfl⟩
  have hB1 : Below w.heap.size w W1 := by rw [hW1]; exact below_dr hB nq
  have hK1 : FrAt W1 w.heap.size id lo fa false sz a len cap := by rw [hW1]; exact hK.kept ⟨rfl, rfl, rfl, Nat.le_refl _, fun _ _ => rfl⟩
  rw [← hW1]
  obtain ⟨k0, k1, k2, k3, k4, k5⟩ := hK1
  clear hB hK hW1
  clear hS hlb
  go_wp2_with fail
  go_ret
  exact ⟨rfl, hB1⟩
set_option maxHeartbeats 4000000 in
theorem ck_rszL (id : Int) (lo : Bool) (sz : Int) (a : Option Addr) (len cap : Nat) (w : World) (hS : SizesAt w) (hlb : (len : Int) ≤ 9223372036854775807) (h0 : 0 ≤ id) (h2 : id ≤ topI lo) (h3 : sz < 0) (hl : (len : Int) ≤ 0) :
    Calls Tryd.prog 42 #[frameV id lo false true sz a len cap] w fun e w' => e = .returned (.int .i64 3) ∧ Below w.heap.size w w' := by
  have hd0 : decide (id < 0) = false := by simp; omega
  have hB := below_box w id lo false true sz a len cap
  have hK := FrAt.box w id lo false true sz a len cap
  unfold frameC at hB hK
  unfold frameV
  go_enter Tryd.func42, Tryd.ntmps42
  go_wp2_with fail
  go_quiet ((go_at_call 53; refine Calls.quiet_of_same (maxID_any lo _)))
  obtain ⟨W1, hW1⟩ : ∃ W1, W1 = (w.alloc (.cells #[.int .i64 id, .bool lo, .bool false, .bool true, .int .i64 sz, .slice a len cap] 25)).drewN nq := ⟨_, rfl⟩
  have hB1 : Below w.heap.size w W1 := by rw [hW1]; exact below_dr hB nq
  have hK1 : FrAt W1 w.heap.size id lo false true sz a len cap := by rw [hW1]; exact hK.kept ⟨rfl, rfl, rfl, Nat.le_refl _, fun _ _ => rfl⟩
  rw [← hW1]
  obtain ⟨k0, k1, k2, k3, k4, k5⟩ := hK1
  clear hB hK hW1
  clear hS
  go_wp2_with fail
  go_ret
  exact ⟨rfl, hB1⟩
set_option maxHeartbeats 4000000 in
theorem ck_rszH (id : Int) (lo : Bool) (sz : Int) (a : Option Addr) (len cap : Nat) (w : World) (hS : SizesAt w) (hlb : (len : Int) ≤ 9223372036854775807) (h0 : 0 ≤ id) (h2 : id ≤ topI lo) (h3 : 8 < sz) (hl : (len : Int) ≤ 0) :
    Calls Tryd.prog 42 #[frameV id lo false true sz a len cap] w fun e w' => e = .returned (.int .i64 3) ∧ Below w.heap.size w w' := by
  have hd0 : decide (id < 0) = false := by simp; omega
  have hB := below_box w id lo false true sz a len cap
  have hK := FrAt.box w id lo false true sz a len cap
  unfold frameC at hB hK
  unfold frameV
  go_enter Tryd.func42, Tryd.ntmps42
  go_wp2_with fail
  go_quiet ((go_at_call 53; refine Calls.quiet_of_same (maxID_any lo _)))
  obtain ⟨W1, hW1⟩ : ∃ W1, W1 = (w.alloc (.cells #[.int .i64 id, .bool lo, .bool false, .bool true, .int .i64 sz, .slice a len cap] 25)).drewN nq := ⟨_, rfl⟩
  have hB1 : Below w.heap.size w W1 := by rw [hW1]; exact below_dr hB nq
  have hK1 : FrAt W1 w.heap.size id lo false true sz a len cap := by rw [hW1]; exact hK.kept ⟨rfl, rfl, rfl, Nat.le_refl _, fun _ _ => rfl⟩
  rw [← hW1]
  obtain ⟨k0, k1, k2, k3, k4, k5⟩ := hK1
  clear hB hK hW1
  clear hS
  go_wp2_with fail
  go_ret
  exact ⟨rfl, hB1⟩
set_option maxHeartbeats 4000000 in
theorem ck_many (id : Int) (lo fa : Bool) (a : Option Addr) (len cap : Nat) (w : World) (hS : SizesAt w) (hlb : (len : Int) ≤ 9223372036854775807) (h0 : 0 ≤ id) (h2 : id ≤ topI lo) (h3 : topDI fa < (len : Int)) :
    Calls Tryd.prog 42 #[frameV id lo fa false 0 a len cap] w fun e w' => e = .returned (.int .i64 2) ∧ Below w.heap.size w w' := by
  have hd0 : decide (id < 0) = false := by simp; omega
  have hB := below_box w id lo fa false 0 a len cap
  have hK := FrAt.box w id lo fa false 0 a len cap
  unfold frameC at hB hK
  unfold frameV
  go_enter Tryd.func42, Tryd.ntmps42
  go_wp2_with fail
  go_quiet ((go_at_call 53; refine Calls.quiet_of_same (maxID_any lo _)))
  obtain ⟨W1, hW1⟩ : ∃ W1, W1 = (w.alloc (.cells #[.int .i64 id, .bool lo, .bool fa, .bool false, .int .i64 0, .slice a len cap] 25)).drewN nq := ⟨_, rfl⟩
  have hB1 : Below w.heap.size w W1 := by rw [hW1]; exact below_dr hB nq
  have hK1 : FrAt W1 w.heap.size id lo fa false 0 a len cap := by rw [hW1]; exact hK.kept ⟨rfl, rfl, rfl, Nat.le_refl _, fun _ _ => rfl⟩
  rw [← hW1]
  obtain ⟨k0, k1, k2, k3, k4, k5⟩ := hK1
  clear hB hK hW1
  clear hS
  go_wp2_with fail
  go_quiet ((go_at_call 54; refine Calls.quiet_of_same (maxData_any fa _)))
  obtain ⟨W2, hW2⟩ : ∃ W2, W2 = W1.drewN nq := ⟨_, rfl⟩
  have hB2 : Below w.heap.size w W2 := by rw [hW2]; exact below_dr hB1 nq
  have j5 : W2.cell? ⟨w.heap.size, 5, none⟩ = some (.slice a len cap) := by rw [hW2]; exact k5
  rw [← hW2]
  clear hB1 hW2 k0 k1 k2 k3 k4 k5
  go_wp2_with fail
  go_ret
  exact ⟨rfl, hB2⟩
set_option maxHeartbeats 4000000 in
theorem ck_form (id : Int) (lo fa : Bool) (a : Option Addr) (len cap : Nat) (w : World) (hS : SizesAt w) (hlb : (len : Int) ≤ 9223372036854775807) (h0 : 0 ≤ id) (h2 : id ≤ topI lo) (h3 : (len : Int) ≤ topDI fa) (hq : idxI sizesI (len : Int) < 0) :
    Calls Tryd.prog 42 #[frameV id lo fa false 0 a len cap] w fun e w' => e = .returned (.int .i64 4) ∧ Below w.heap.size w w' := by
  have hd0 : decide (id < 0) = false := by simp; omega
  have hB := below_box w id lo fa false 0 a len cap
  have hK := FrAt.box w id lo fa false 0 a len cap
  unfold frameC at hB hK
  unfold frameV
  go_enter Tryd.func42, Tryd.ntmps42
  go_wp2_with fail
  go_quiet ((go_at_call 53; refine Calls.quiet_of_same (maxID_any lo _)))
  obtain ⟨W1, hW1⟩ : ∃ W1, W1 = (w.alloc (.cells #[.int .i64 id, .bool lo, .bool fa, .bool false, .int .i64 0, .slice a len cap] 25)).drewN nq := ⟨_, rfl⟩
  have hB1 : Below w.heap.size w W1 := by rw [hW1]; exact below_dr hB nq
  have hK1 : FrAt W1 w.heap.size id lo fa false 0 a len cap := by rw [hW1]; exact hK.kept ⟨rfl, rfl, rfl, Nat.le_refl _, fun _ _ => rfl⟩
  rw [← hW1]
  obtain ⟨k0, k1, k2, k3, k4, k5⟩ := hK1
  clear hB hK hW1
  go_wp2_with fail
  go_quiet ((go_at_call 54; refine Calls.quiet_of_same (maxData_any fa _)))
  obtain ⟨W2, hW2⟩ : ∃ W2, W2 = W1.drewN nq := ⟨_, rfl⟩
  have hB2 : Below w.heap.size w W2 := by rw [hW2]; exact below_dr hB1 nq
  have j5 : W2.cell? ⟨w.heap.size, 5, none⟩ = some (.slice a len cap) := by rw [hW2]; exact k5
  rw [← hW2]
  clear hB1 hW2 k0 k1 k2 k3 k4 k5
  have HS := Hid.mk (hS.kept hB2)
  go_wp2_with fail
  refine (codeOf_any (len : Int) W2 HS.out).mono ?_
  rintro e w1 ⟨rfl, hw⟩
  subst hw
  go_wp2_with fail
  go_ret
  exact ⟨rfl, hB2⟩
set_option maxHeartbeats 4000000 in
theorem ck_ok (id : Int) (lo fa : Bool) (a : Option Addr) (len cap : Nat) (w : World) (hS : SizesAt w) (hlb : (len : Int) ≤ 9223372036854775807) (h0 : 0 ≤ id) (h2 : id ≤ topI lo) (h3 : (len : Int) ≤ topDI fa) (hq : 0 ≤ idxI sizesI (len : Int)) :
    Calls Tryd.prog 42 #[frameV id lo fa false 0 a len cap] w fun e w' => e = .returned (.int .i64 0) ∧ Below w.heap.size w w' := by
  have hd0 : decide (id < 0) = false := by simp; omega
  have hB := below_box w id lo fa false 0 a len cap
  have hK := FrAt.box w id lo fa false 0 a len cap
  unfold frameC at hB hK
  unfold frameV
  go_enter Tryd.func42, Tryd.ntmps42
  go_wp2_with fail
  go_quiet ((go_at_call 53; refine Calls.quiet_of_same (maxID_any lo _)))
  obtain ⟨W1, hW1⟩ : ∃ W1, W1 = (w.alloc (.cells #[.int .i64 id, .bool lo, .bool fa, .bool false, .int .i64 0, .slice a len cap] 25)).drewN nq := ⟨_, rfl⟩
  have hB1 : Below w.heap.size w W1 := by rw [hW1]; exact below_dr hB nq
  have hK1 : FrAt W1 w.heap.size id lo fa false 0 a len cap := by rw [hW1]; exact hK.kept ⟨rfl, rfl, rfl, Nat.le_refl _, fun _ _ => rfl⟩
  rw [← hW1]
  obtain ⟨k0, k1, k2, k3, k4, k5⟩ := hK1
  clear hB hK hW1
  go_wp2_with fail
  go_quiet ((go_at_call 54; refine Calls.quiet_of_same (maxData_any fa _)))
  obtain ⟨W2, hW2⟩ : ∃ W2, W2 = W1.drewN nq := ⟨_, rfl⟩
  have hB2 : Below w.heap.size w W2 := by rw [hW2]; exact below_dr hB1 nq
  have j5 : W2.cell? ⟨w.heap.size, 5, none⟩ = some (.slice a len cap) := by rw [hW2]; exact k5
  rw [← hW2]
  clear hB1 hW2 k0 k1 k2 k3 k4 k5
  have HS := Hid.mk (hS.kept hB2)
  go_wp2_with fail
  refine (codeOf_any (len : Int) W2 HS.out).mono ?_
  rintro e w1 ⟨rfl, hw⟩
  subst hw
  go_wp2_with fail
  go_ret
  exact ⟨rfl, hB2⟩
set_option maxHeartbeats 4000000 in
theorem ck_rok0 (id : Int) (lo : Bool) (a : Option Addr) (len cap : Nat) (w : World) (hS : SizesAt w) (hlb : (len : Int) ≤ 9223372036854775807) (h0 : 0 ≤ id) (h2 : id ≤ topI lo) (hl : (len : Int) ≤ 0) (hq : 0 ≤ idxI sizesI (len : Int)) :
    Calls Tryd.prog 42 #[frameV id lo false true 0 a len cap] w fun e w' => e = .returned (.int .i64 0) ∧ Below w.heap.size w w' := by
  have hd0 : decide (id < 0) = false := by simp; omega
  have hB := below_box w id lo false true 0 a len cap
  have hK := FrAt.box w id lo false true 0 a len cap
  unfold frameC at hB hK
  unfold frameV
  go_enter Tryd.func42, Tryd.ntmps42
  go_wp2_with fail
  go_quiet ((go_at_call 53; refine Calls.quiet_of_same (maxID_any lo _)))
  obtain ⟨W1, hW1⟩ : ∃ W1, W1 = (w.alloc (.cells #[.int .i64 id, .bool lo, .bool false, .bool true, .int .i64 0, .slice a len cap] 25)).drewN nq := ⟨_, rfl⟩
  have hB1 : Below w.heap.size w W1 := by rw [hW1]; exact below_dr hB nq
  have hK1 : FrAt W1 w.heap.size id lo false true 0 a len cap := by rw [hW1]; exact hK.kept ⟨rfl, rfl, rfl, Nat.le_refl _, fun _ _ => rfl⟩
  rw [← hW1]
  obtain ⟨k0, k1, k2, k3, k4, k5⟩ := hK1
  clear hB hK hW1
  have h5 : (len : Int) ≤ topDI false := by simp only [topDI]; simp; omega
  go_wp2_with fail
  go_quiet ((go_at_call 54; refine Calls.quiet_of_same (maxData_any false _)))
  obtain ⟨W2, hW2⟩ : ∃ W2, W2 = W1.drewN nq := ⟨_, rfl⟩
  have hB2 : Below w.heap.size w W2 := by rw [hW2]; exact below_dr hB1 nq
  have j5 : W2.cell? ⟨w.heap.size, 5, none⟩ = some (.slice a len cap) := by rw [hW2]; exact k5
  rw [← hW2]
  clear hB1 hW2 k0 k1 k2 k3 k4 k5
  have HS := Hid.mk (hS.kept hB2)
  go_wp2_with fail
  refine (codeOf_any (len : Int) W2 HS.out).mono ?_
  rintro e w1 ⟨rfl, hw⟩
  subst hw
  go_wp2_with fail
  go_ret
  exact ⟨rfl, hB2⟩
set_option maxHeartbeats 4000000 in
theorem ck_rok1 (id : Int) (lo : Bool) (sz : Int) (a : Option Addr) (len cap : Nat) (w : World) (hS : SizesAt w) (hlb : (len : Int) ≤ 9223372036854775807) (h0 : 0 ≤ id) (h2 : id ≤ topI lo) (h3 : 0 < sz) (h4 : sz ≤ 8) (hl : (len : Int) ≤ 0) (hq : 0 ≤ idxI sizesI (len : Int)) :
    Calls Tryd.prog 42 #[frameV id lo false true sz a len cap] w fun e w' => e = .returned (.int .i64 0) ∧ Below w.heap.size w w' := by
  have hd0 : decide (id < 0) = false := by simp; omega
  have hB := below_box w id lo false true sz a len cap
  have hK := FrAt.box w id lo false true sz a len cap
  unfold frameC at hB hK
  unfold frameV
  have h6 : (sz != 0) = true := by simp; omega
  go_enter Tryd.func42, Tryd.ntmps42
  go_wp2_with fail
  go_quiet ((go_at_call 53; refine Calls.quiet_of_same (maxID_any lo _)))
  obtain ⟨W1, hW1⟩ : ∃ W1, W1 = (w.alloc (.cells #[.int .i64 id, .bool lo, .bool false, .bool true, .int .i64 sz, .slice a len cap] 25)).drewN nq := ⟨_, rfl⟩
  have hB1 : Below w.heap.size w W1 := by rw [hW1]; exact below_dr hB nq
  have hK1 : FrAt W1 w.heap.size id lo false true sz a len cap := by rw [hW1]; exact hK.kept ⟨rfl, rfl, rfl, Nat.le_refl _, fun _ _ => rfl⟩
  rw [← hW1]
  obtain ⟨k0, k1, k2, k3, k4, k5⟩ := hK1
  clear hB hK hW1
  have h5 : (len : Int) ≤ topDI false := by simp only [topDI]; simp; omega
  go_wp2_with fail
  go_quiet ((go_at_call 54; refine Calls.quiet_of_same (maxData_any false _)))
  obtain ⟨W2, hW2⟩ : ∃ W2, W2 = W1.drewN nq := ⟨_, rfl⟩
  have hB2 : Below w.heap.size w W2 := by rw [hW2]; exact below_dr hB1 nq
  have j5 : W2.cell? ⟨w.heap.size, 5, none⟩ = some (.slice a len cap) := by rw [hW2]; exact k5
  rw [← hW2]
  clear hB1 hW2 k0 k1 k2 k3 k4 k5
  have HS := Hid.mk (hS.kept hB2)
  go_wp2_with fail
  refine (codeOf_any (len : Int) W2 HS.out).mono ?_
  rintro e w1 ⟨rfl, hw⟩
  subst hw
  go_wp2_with fail
  go_ret
  exact ⟨rfl, hB2⟩
theorem frCheck_any (id : Int) (lo fa re : Bool) (sz : Int) (a : Option Addr) (len cap : Nat) (w : World) (hS : SizesAt w) (hl : len ≤ maxLen) :
    Calls Tryd.prog 42 #[frameV id lo fa re sz a len cap] w fun e w' => e = .returned (.int .i64 (frEn id lo fa re sz len)) ∧ Below w.heap.size w w' := by
  have hneg := idx_neg len
  have hlb : (len : Int) ≤ 9223372036854775807 := by unfold maxLen at hl; omega
  unfold frEn
  by_cases h1 : id < 0 ∨ topI lo < id
  · rw [if_pos h1]
    by_cases h0 : id < 0
    · exact ck_low id lo fa re sz a len cap w h0
    · exact ck_high id lo fa re sz a len cap w (by omega) (by omega)
  · rw [if_neg h1]
    have h0 : 0 ≤ id := by omega
    have h2 : id ≤ topI lo := by omega
    cases re
    · rw [if_neg (by simp)]
      by_cases h5 : sz < 0 ∨ 8 < sz ∨ (0 < sz ∧ false = false)
      · rw [if_pos h5]
        by_cases h6 : sz < 0
        · exact ck_szL id lo fa sz a len cap w hS hlb h0 h2 h6
        · by_cases h7 : 8 < sz
          · exact ck_szH id lo fa sz a len cap w hS hlb h0 h2 h7
          · exact ck_szN id lo fa sz a len cap w hS hlb h0 h2 (by simp at h5; omega) (by omega)
      · rw [if_neg h5]
        obtain rfl : sz = 0 := by simp at h5; omega
        by_cases h9 : 64 < len ∨ (8 < len ∧ fa = false)
        · rw [if_pos h9]
          exact ck_many id lo fa a len cap w hS hlb h0 h2 (by cases fa <;> simp [topDI] at h9 ⊢ <;> omega)
        · rw [if_neg h9]
          have h10 : (len : Int) ≤ topDI fa := by cases fa <;> simp [topDI] at h9 ⊢ <;> omega
          by_cases hm : len ∈ sizesL
          · rw [if_pos hm]
            exact ck_ok id lo fa a len cap w hS hlb h0 h2 h10 (by rcases Int.lt_or_le (idxI sizesI (len : Int)) 0 with h | h; exact absurd hm (hneg.1 h); exact h)
          · rw [if_neg hm]
            exact ck_form id lo fa a len cap w hS hlb h0 h2 h10 (hneg.2 hm)
    · cases fa
      · by_cases hlen : len = 0
        · subst hlen
          rw [if_neg (by simp)]
          by_cases h5 : sz < 0 ∨ 8 < sz ∨ (0 < sz ∧ true = false)
          · rw [if_pos h5]
            by_cases h6 : sz < 0
            · exact ck_rszL id lo sz a 0 cap w hS hlb h0 h2 h6 (by simp)
            · exact ck_rszH id lo sz a 0 cap w hS hlb h0 h2 (by simp at h5; omega) (by simp)
          · rw [if_neg h5, if_neg (by simp), if_pos (by decide)]
            by_cases hz : sz = 0
            · subst hz
              exact ck_rok0 id lo a 0 cap w hS hlb h0 h2 (by simp) (by decide)
            · exact ck_rok1 id lo sz a 0 cap w hS hlb h0 h2 (by omega) (by omega) (by simp) (by decide)
        · rw [if_pos ⟨rfl, .inr hlen⟩]
          exact ck_remD id lo sz a len cap w hS hlb h0 h2 (by omega)
      · rw [if_pos ⟨rfl, .inl rfl⟩]
        exact ck_remF id lo sz a len cap w hS hlb h0 h2
end Bw
end Go.Proofs.YthdffdobkampaaaDoor

/- What the document's own CheckFrame answers of a frame that lies in memory, as a premise. -/
namespace Go.Proofs.YthdffdobkampaaaDoor
open Go.ChangeShapes Go.WideShapes Go.ChangeAt Go.RowKit
namespace Bw
open Bm Cm
def CheckF : Prop := ∀ (id : Int) (lo fa re : Bool) (sz : Int) (a : Option Addr) (len cap : Nat) (w : World), len ≤ 9223372036854775807 →
    Calls Tryd.prog 17 #[frameV id lo fa re sz a len cap] w fun e w' => e = .returned (.int .i64 (frEn id lo fa re sz len)) ∧ Below w.heap.size w w'
theorem CheckF.fr (h : CheckF) (f : Fr) (a : Option Addr) (len cap : Nat) (w : World) (hy : IsBytes w a len cap f.dt) :
    Calls Tryd.prog 17 #[frameV f.id f.lo f.fa f.re f.sz a len cap] w fun e w' => e = .returned (.int .i64 (frE f)) ∧ Below w.heap.size w w' := by
  have h1 : len ≤ maxLen := Nat.le_trans hy.2.1 hy.2.2.1
  have h2 := h f.id f.lo f.fa f.re f.sz a len cap w (by unfold maxLen at h1; omega)
  have e : frEn f.id f.lo f.fa f.re f.sz len = frE f := by unfold frE; rw [hy.1]
  rw [e] at h2
  exact h2
end Bw
end Go.Proofs.YthdffdobkampaaaDoor

/- Frames that came in as a list: the six cells of each, and its bytes. -/
namespace Go.Proofs.YthdffdobkampaaaDoor
open Go.ChangeShapes Go.WideShapes Go.ChangeAt Go.RowKit
namespace Bw
/-- a frame as it lies in memory -/
structure FrV where
  f : Fr
  a : Option Addr
  len : Nat
  cap : Nat
def FrV.cells (v : FrV) : List Value := [.int .i64 v.f.id, .bool v.f.lo, .bool v.f.fa, .bool v.f.re, .int .i64 v.f.sz, .slice v.a v.len v.cap]
def FrV.val (v : FrV) : Value := frameV v.f.id v.f.lo v.f.fa v.f.re v.f.sz v.a v.len v.cap
set_option maxRecDepth 100000 in
theorem open_frame_cells {H : Type} {enc : TypeId × Value → H} {W : World} {fuel : Nat} {cs : List Value} {x : DataW H × List MemPlace} (hcs : cs.length = 6)
    (hf : DataW.trod enc Tryd.prog W 0 (fun _ => true) true fuel 25 cs = some x) :
    ∃ v : FrV, cs = v.cells ∧ IsBytes W v.a v.len v.cap v.f.dt := by
  obtain ⟨xs, n, _, rfl, _, hlen, hF⟩ := DataW.trod_struct Tryd.underlying25 hf
  obtain ⟨c0, c1, c2, c3, c4, c5, hc⟩ := six_cells hcs
  rw [hc] at hF
  have h6 : xs.length = 6 := hlen
  have g : ∀ i, i < 6 → ∃ y, xs[i]? = some y := fun i hi => ⟨xs[i]'(by omega), List.getElem?_eq_getElem (by omega)⟩
  obtain ⟨y0, e0⟩ := g 0 (by omega)
  obtain ⟨y1, e1⟩ := g 1 (by omega)
  obtain ⟨y2, e2⟩ := g 2 (by omega)
  obtain ⟨y3, e3⟩ := g 3 (by omega)
  obtain ⟨y4, e4⟩ := g 4 (by omega)
  obtain ⟨y5, e5⟩ := g 5 (by omega)
  have f0 := hF 0 _ rfl
  have f1 := hF 1 _ rfl
  have f2 := hF 2 _ rfl
  have f3 := hF 3 _ rfl
  have f4 := hF 4 _ rfl
  have f5 := hF 5 _ rfl
  rw [e0] at f0
  rw [e1] at f1
  rw [e2] at f2
  rw [e3] at f3
  rw [e4] at f4
  rw [e5] at f5
  obtain ⟨id, q0, _, w0⟩ := DataW.trod_int Tryd.underlying3 f0
  obtain ⟨lo, q1, _⟩ := DataW.trod_bool Tryd.underlying4 f1
  obtain ⟨fa, q2, _⟩ := DataW.trod_bool Tryd.underlying4 f2
  obtain ⟨re, q3, _⟩ := DataW.trod_bool Tryd.underlying4 f3
  obtain ⟨sz, q4, _, w4⟩ := DataW.trod_int Tryd.underlying3 f4
  have p0 : ([c0, c1, c2, c3, c4, c5].drop 0).take (Tryd.prog.cellsOf 3) = [.int .i64 id] := q0
  have p1 : ([c0, c1, c2, c3, c4, c5].drop 1).take (Tryd.prog.cellsOf 4) = [.bool lo] := q1
  have p2 : ([c0, c1, c2, c3, c4, c5].drop 2).take (Tryd.prog.cellsOf 4) = [.bool fa] := q2
  have p3 : ([c0, c1, c2, c3, c4, c5].drop 3).take (Tryd.prog.cellsOf 4) = [.bool re] := q3
  have p4 : ([c0, c1, c2, c3, c4, c5].drop 4).take (Tryd.prog.cellsOf 3) = [.int .i64 sz] := q4
  rw [int_c1] at p0 p4
  rw [bool_c1] at p1 p2 p3
  have q0 : c0 = .int .i64 id := by simpa using p0
  have q1 : c1 = .bool lo := by simpa using p1
  have q2 : c2 = .bool fa := by simpa using p2
  have q3 : c3 = .bool re := by simpa using p3
  have q4 : c4 = .int .i64 sz := by simpa using p4
  have hrow : ∃ a len cap zs, c5 = .slice a len cap ∧ IsRow .u8 W a len cap zs := by
    have f5 : DataW.trod enc Tryd.prog W 0 (fun _ => true) true n 23 (([c0, c1, c2, c3, c4, c5].drop 5).take (Tryd.prog.cellsOf 23)) = some y5 := f5
    rw [row_c1] at f5
    have e5 : ([c0, c1, c2, c3, c4, c5].drop 5).take 1 = [c5] := rfl
    rw [e5] at f5
    rcases open_ints Tryd.underlying23 Tryd.underlying5 byte_c1 f5 with ⟨q5, _⟩ | ⟨a, len, cap, zs, q5, _, hl, hm, hz, _, hcell, hw⟩
    · simp only [List.cons.injEq, and_true] at q5
      exact ⟨none, 0, 0, [], q5, .inl ⟨rfl, rfl, rfl, rfl⟩⟩
    · simp only [List.cons.injEq, and_true] at q5
      exact ⟨some a, len, cap, zs, q5, .inr ⟨a, rfl, hl, hm, by simpa using hz, hcell, hw⟩⟩
  obtain ⟨a, len, cap, zs, q5, hr⟩ := hrow
  obtain ⟨l, hl⟩ := isBytes_of_row hr
  refine ⟨⟨⟨id, lo, fa, re, sz, l⟩, a, len, cap⟩, ?_, hl⟩
  rw [hc, q0, q1, q2, q3, q4, q5]; rfl
/-- a list of frames that came in -/
structure IsFrames (w : World) (a : Option Addr) (n cap : Nat) (l : List FrV) : Prop where
  len : l.length = n
  le : n ≤ cap
  max : cap ≤ maxLen
  none : a = none → n = 0
  cell : ∀ x, a = some x → ∀ i (hi : i < l.length), ∀ k (hk : k < 6), w.cell? (x.add (i * 6 + k)) = some ((l[i].cells)[k]'hk)
  bytes : ∀ i (hi : i < l.length), IsBytes w l[i].a l[i].len l[i].cap l[i].f.dt
set_option maxRecDepth 100000 in
theorem open_frames {H : Type} {enc : TypeId × Value → H} {W : World} {fuel : Nat} {a : Option Addr} {n cap : Nat} {x : DataW H × List MemPlace}
    (hf : DataW.trod enc Tryd.prog W 0 (fun _ => true) true fuel 22 [.slice a n cap] = some x) : ∃ l, IsFrames W a n cap l := by
  rcases DataW.trod_slice Tryd.underlying22 hf with ⟨h0, _⟩ | ⟨y, len, cp, elems, rest, m, _, h0, _, _, hl, hm, hlen, hel, _, _⟩
  · simp only [List.cons.injEq, and_true, Value.slice.injEq] at h0
    obtain ⟨rfl, rfl, rfl⟩ := h0
    exact ⟨[], rfl, Nat.le_refl _, Nat.zero_le _, fun _ => rfl, (fun _ h => by cases h), fun i hi => absurd hi (Nat.not_lt_zero _)⟩
  · simp only [List.cons.injEq, and_true, Value.slice.injEq] at h0
    obtain ⟨rfl, rfl, rfl⟩ := h0
    have each : ∀ i, i < n → ∃ v : FrV, (∀ k (hk : k < 6), W.cell? (y.add (i * 6 + k)) = some ((v.cells)[k]'hk)) ∧ IsBytes W v.a v.len v.cap v.f.dt := by
      intro i hi
      have h1 := hel i hi
      rw [List.getElem?_eq_getElem (by omega), Option.bind_eq_some_iff] at h1
      obtain ⟨cs, h2, h3⟩ := h1
      rw [frame_c] at h2
      have h4 := World.cells?_some h2
      obtain ⟨v, rfl, hv⟩ := open_frame_cells (by exact h4.2.1) h3
      refine ⟨v, fun k hk => ?_, hv⟩
      have h5 := h4.2.2 k hk
      have e : (y.add (i * 6)).add k = y.add (i * 6 + k) := by
        first | exact Addr.add_add _ _ _ | (unfold Addr.add; simp; omega)
      rw [e] at h5
      rw [h5]
      exact List.getElem?_eq_getElem (show k < v.cells.length from hk)
    let g : Nat → FrV := fun i => if h : i < n then (each i h).choose else ⟨⟨0, false, false, false, 0, []⟩, none, 0, 0⟩
    have hg : ∀ i (h : i < n), (∀ k (hk : k < 6), W.cell? (y.add (i * 6 + k)) = some (((g i).cells)[k]'hk)) ∧ IsBytes W (g i).a (g i).len (g i).cap (g i).f.dt := by
      intro i h
      have e : g i = (each i h).choose := by show (if h : i < n then _ else _) = _; rw [dif_pos h]
      rw [e]
      exact (each i h).choose_spec
    refine ⟨(List.range n).map g, by simp, hl, hm, (fun h => by cases h), ?_, ?_⟩
    · intro z hz i hi k hk
      cases hz
      simp only [List.length_map, List.length_range] at hi
      simp only [List.getElem_map, List.getElem_range]
      exact (hg i hi).1 k hk
    · intro i hi
      simp only [List.length_map, List.length_range] at hi
      simp only [List.getElem_map, List.getElem_range]
      exact (hg i hi).2
end Bw
end Go.Proofs.YthdffdobkampaaaDoor

/- Variables of one cell, and worlds of which only some blocks have turned; none walks a function. -/
namespace Go.Proofs.YthdffdobkampaaaDoor
open Go.ChangeShapes Go.WideShapes Go.ChangeAt Go.RowKit
namespace Bw
/-- a variable of one cell -/
def BoxAt (w : World) (g : Nat) (t : TypeId) (v : Value) : Prop := w.heap[g]? = some (.cells #[v] t (0, 0))
theorem BoxAt.lt {w : World} {g : Nat} {t : TypeId} {v : Value} (h : BoxAt w g t v) : g < w.heap.size := by
  rcases Nat.lt_or_ge g w.heap.size with h' | h'
  · exact h'
  · unfold BoxAt at h; rw [Array.getElem?_eq_none h'] at h; cases h
theorem BoxAt.cell {w : World} {g : Nat} {t : TypeId} {v : Value} (h : BoxAt w g t v) : w.cell? ⟨g, 0, none⟩ = some v := by
  rw [cell_of_row w g 0 _ _ _ h]; rfl
theorem BoxAt.frozen {w : World} {g : Nat} {t : TypeId} {v : Value} (h : BoxAt w g t v) : w.frozen? ⟨g, 0, none⟩ = false := frozen_of_row w g 0 _ _ h
theorem BoxAt.kept {w w' : World} {g : Nat} {t : TypeId} {v : Value} (h : BoxAt w g t v) (hb : Below w.heap.size w w') : BoxAt w' g t v := by
  unfold BoxAt; rw [hb.block g h.lt]; exact h
theorem BoxAt.set {w : World} {g : Nat} {t : TypeId} {v : Value} (h : BoxAt w g t v) (u : Value) : BoxAt (w.setCell ⟨g, 0, none⟩ u) g t u := heap_setCell_same w g 0 _ t u h
theorem BoxAt.other {w : World} {g k : Nat} {t : TypeId} {v : Value} (h : BoxAt w g t v) (u : Value) (hk : g ≠ k) : BoxAt (w.setCell ⟨k, 0, none⟩ u) g t v := by
  unfold BoxAt; rw [Below.heap_setCell _ _ _ _ hk]; exact h
/-- of what was there only these blocks have turned -/
structure Tch (gs : List Nat) (w w' : World) : Prop where
  os : w'.os = w.os
  tape : w'.tape = w.tape
  output : w'.output = w.output
  size : w.heap.size ≤ w'.heap.size
  block : ∀ k, k < w.heap.size → k ∉ gs → w'.heap[k]? = w.heap[k]?
theorem Tch.refl (gs : List Nat) (w : World) : Tch gs w w := ⟨rfl, rfl, rfl, Nat.le_refl _, fun _ _ _ => rfl⟩
theorem Tch.of {gs : List Nat} {w w' : World} (h : Below w.heap.size w w') : Tch gs w w' := ⟨h.os, h.tape, h.output, h.size, fun k hk _ => h.block k hk⟩
theorem Tch.trans {gs : List Nat} {w a b : World} (h1 : Tch gs w a) (h2 : Tch gs a b) : Tch gs w b :=
  ⟨h2.os.trans h1.os, h2.tape.trans h1.tape, h2.output.trans h1.output, Nat.le_trans h1.size h2.size, fun k hk hg => (h2.block k (Nat.lt_of_lt_of_le hk h1.size) hg).trans (h1.block k hk hg)⟩
theorem Tch.set {gs : List Nat} {w a : World} (h : Tch gs w a) {g : Nat} (hg : g ∈ gs) (u : Value) : Tch gs w (a.setCell ⟨g, 0, none⟩ u) :=
  h.trans ⟨rfl, rfl, rfl, by simp [World.setCell], fun k _ hk => Below.heap_setCell _ _ _ _ (fun e => hk (e ▸ hg))⟩
theorem Tch.setK {gs : List Nat} {w a : World} (h : Tch gs w a) {g : Nat} (hg : g ∈ gs) (k : Nat) (u : Value) : Tch gs w (a.setCell ⟨g, k, none⟩ u) :=
  h.trans ⟨rfl, rfl, rfl, by simp [World.setCell], fun q _ hq => Below.heap_setCell _ _ _ _ (fun e => hq (e ▸ hg))⟩
theorem Tch.below {gs : List Nat} {w a b : World} {B : Nat} (h : Below B w a) (ht : Tch gs a b) (hg : ∀ g ∈ gs, B ≤ g) (hB : B ≤ w.heap.size) : Below B w b :=
  ⟨ht.os.trans h.os, ht.tape.trans h.tape, ht.output.trans h.output, Nat.le_trans h.size ht.size, fun k hk => (ht.block k (by have := h.size; omega) (fun e => by have := hg k e; omega)).trans (h.block k hk)⟩
theorem Tch.box {gs : List Nat} {w w' : World} (ht : Tch gs w w') {g : Nat} {t : TypeId} {v : Value} (h : BoxAt w g t v) (hg : g ∉ gs) : BoxAt w' g t v := by
  unfold BoxAt; rw [ht.block g h.lt hg]; exact h

end Bw
end Go.Proofs.YthdffdobkampaaaDoor

/- A queue's line as it lies in memory: thirty-two entries and a size; how parts of it are read and stored. None walks a function. -/
namespace Go.Proofs.YthdffdobkampaaaDoor
open Go.ChangeShapes Go.WideShapes Go.ChangeAt Go.RowKit
namespace Bw
/-- an entry: a name, a frame -/
structure Ent where
  name : List UInt8
  v : FrV
def Ent.cells (x : Ent) : List Value := .string ⟨x.name.toArray⟩ :: x.v.cells
def zV : FrV := ⟨⟨0, false, false, false, 0, []⟩, none, 0, 0⟩
def zE : Ent := ⟨[], zV⟩
def enC (A : List Ent) : List Value := A.flatMap Ent.cells
def lnC (A : List Ent) (n : Int) : List Value := enC A ++ [.int .i64 n]
theorem ent_len (x : Ent) : x.cells.length = 7 := rfl
theorem enC_len (A : List Ent) : (enC A).length = A.length * 7 := by
  induction A with
  | nil => rfl
  | cons x A ih => rw [enC, List.flatMap_cons, List.length_append]; show 7 + (enC A).length = _; rw [ih, List.length_cons]; omega
theorem lnC_len (A : List Ent) (n : Int) : (lnC A n).length = A.length * 7 + 1 := by unfold lnC; rw [List.length_append, enC_len]; rfl
theorem enC_split (A : List Ent) : ∀ i (h : i < A.length), enC A = enC (A.take i) ++ (A[i].cells ++ enC (A.drop (i + 1))) := by
  induction A with
  | nil => intro i h; exact absurd h (Nat.not_lt_zero _)
  | cons x A ih =>
    intro i h
    cases i with
    | zero => rfl
    | succ i =>
      have h' : i < A.length := by simpa using h
      have e : enC (x :: A) = x.cells ++ enC A := rfl
      have e1 : enC ((x :: A).take (i + 1)) = x.cells ++ enC (A.take i) := rfl
      rw [e, e1, List.append_assoc, List.getElem_cons_succ, List.drop_succ_cons, ← ih i h']
theorem enC_take_len (A : List Ent) (i : Nat) (h : i ≤ A.length) : (enC (A.take i)).length = i * 7 := by rw [enC_len, List.length_take, Nat.min_eq_left h]
theorem lnC_at (A : List Ent) (n : Int) (i k : Nat) (h : i < A.length) (hk : k < 7) : (lnC A n)[i * 7 + k]? = (A[i].cells)[k]? := by
  have ht := enC_take_len A i (by omega)
  unfold lnC
  rw [enC_split A i h, List.append_assoc, List.getElem?_append_right (by omega), ht, show i * 7 + k - i * 7 = k by omega, List.append_assoc, List.getElem?_append_left (by rw [ent_len]; omega)]
theorem lnC_size (A : List Ent) (n : Int) : (lnC A n)[A.length * 7]? = some (.int .i64 n) := by
  unfold lnC
  rw [List.getElem?_append_right (by rw [enC_len]; omega), enC_len, Nat.sub_self]
  rfl
theorem lnC_set (A : List Ent) (n : Int) (i : Nat) (x : Ent) (h : i < A.length) : (lnC A n).take (i * 7) ++ x.cells ++ (lnC A n).drop (i * 7 + 7) = lnC (A.set i x) n := by
  have ht := enC_take_len A i (by omega)
  have h1 : (lnC A n).take (i * 7) = enC (A.take i) := by
    unfold lnC
    rw [enC_split A i h, List.append_assoc, List.take_append_of_le_length (by omega), List.take_of_length_le (by omega)]
  have h2 : (lnC A n).drop (i * 7 + 7) = enC (A.drop (i + 1)) ++ [.int .i64 n] := by
    have e : lnC A n = (enC (A.take i) ++ A[i].cells) ++ (enC (A.drop (i + 1)) ++ [.int .i64 n]) := by unfold lnC; rw [enC_split A i h]; simp only [List.append_assoc]
    rw [e]
    exact List.drop_left' (by rw [List.length_append, ht, ent_len])
  rw [h1, h2]
  unfold lnC
  rw [enC_split (A.set i x) i (by simpa using h), List.getElem_set_self, List.take_set_of_le (Nat.le_refl _), List.drop_set_of_lt (by omega)]
  simp only [List.append_assoc]
theorem lnC_setSize (A : List Ent) (n m : Int) : (lnC A n).set (A.length * 7) (.int .i64 m) = lnC A m := by
  unfold lnC
  rw [List.set_append_right _ _ (by rw [enC_len]; omega), enC_len, Nat.sub_self]
  rfl
theorem ent_one (x : Ent) : ∀ u ∈ x.cells, u.oneCell' = true := by
  intro u hu
  unfold Ent.cells FrV.cells at hu
  simp only [List.mem_cons, List.not_mem_nil, or_false] at hu
  rcases hu with rfl | rfl | rfl | rfl | rfl | rfl | rfl <;> rfl
theorem lnC_one (A : List Ent) (n : Int) : ∀ u ∈ lnC A n, u.oneCell' = true := by
  intro u hu
  rcases List.mem_append.1 hu with hu | hu
  · obtain ⟨x, _, hx⟩ := List.mem_flatMap.1 hu
    exact ent_one x u hx
  · rw [List.mem_singleton] at hu; subst hu; rfl
/-- a line that lies in block b -/
structure LnAt (w : World) (b : Nat) (A : List Ent) (n : Int) : Prop where
  len : A.length = 32
  row : w.heap[b]? = some (.cells (lnC A n).toArray 55 (0, 0))
theorem LnAt.lt {w : World} {b : Nat} {A : List Ent} {n : Int} (h : LnAt w b A n) : b < w.heap.size := (Array.getElem?_eq_some_iff.1 h.row).1
theorem LnAt.kept {w w' : World} {b : Nat} {A : List Ent} {n : Int} (h : LnAt w b A n) (hb : Below w.heap.size w w') : LnAt w' b A n := ⟨h.len, by rw [hb.block b h.lt]; exact h.row⟩
theorem LnAt.tch {gs : List Nat} {w w' : World} {b : Nat} {A : List Ent} {n : Int} (h : LnAt w b A n) (ht : Tch gs w w') (hb : b ∉ gs) : LnAt w' b A n := ⟨h.len, by rw [ht.block b h.lt hb]; exact h.row⟩
theorem LnAt.drewN {w : World} {b : Nat} {A : List Ent} {n : Int} (h : LnAt w b A n) (q : Nat) : LnAt (w.drewN q) b A n := ⟨h.len, h.row⟩
theorem LnAt.cell {w : World} {b : Nat} {A : List Ent} {n : Int} (h : LnAt w b A n) (i k : Nat) (hi : i < 32) (hk : k < 7) : w.cell? ⟨b, i * 7 + k, none⟩ = ((A[i]'(by have := h.len; omega)).cells)[k]? := by
  rw [cell_of_row w b _ _ _ _ h.row, List.getElem?_toArray, lnC_at A n i k (by have := h.len; omega) hk]
theorem LnAt.size {w : World} {b : Nat} {A : List Ent} {n : Int} (h : LnAt w b A n) : w.cell? ⟨b, 224, none⟩ = some (.int .i64 n) := by
  rw [cell_of_row w b _ _ _ _ h.row, List.getElem?_toArray]
  have := lnC_size A n
  rw [h.len] at this
  exact this
set_option maxRecDepth 10000 in
theorem line_info : (Tryd.prog.info? 55).map (·.size) = some 225 := by kernel_rfl
theorem ent_info : (Tryd.prog.info? 52).map (·.size) = some 7 := by kernel_rfl
theorem fr_info : (Tryd.prog.info? 25).map (·.size) = some 6 := by kernel_rfl
set_option maxRecDepth 10000 in
theorem line_zero : (Tryd.prog.info? 55).map (fun i => (i.zero, i.size)) = some (some (.agg (lnC (List.replicate 32 zE) 0).toArray), 225) := by kernel_rfl
def lnO (A : List Ent) (n : Int) : Obj := .cells (lnC A n).toArray 55
theorem LnAt.new (w : World) (A : List Ent) (n : Int) (h : A.length = 32) : LnAt (w.alloc (lnO A n)) w.heap.size A n := ⟨h, heap_alloc_new w _⟩
theorem tch_row {w : World} {b : Nat} (c : Array Value) : Tch [b] w (w.setRow b c) :=
  ⟨rfl, rfl, rfl, by simp, fun k _ hk => setRow_other w b k c (fun e => hk (by simp [e]))⟩
theorem zero_line : Tryd.zeroCells55 = (lnC (List.replicate 32 zE) 0).toArray := by kernel_rfl
theorem lnC_arr (A : List Ent) (n : Int) (h : A.length = 32) : (lnC A n).toArray.size = 225 := by rw [List.size_toArray, lnC_len, h]
section
variable {ops : Array Oper} {rest : List Oper} {dst : Option Tmp} {ty : TypeId} {pos : String} {aft : Array Edge} {a : Act} {w : World} {Q : Exit → Act → World → Prop}
/-- an entry of a line is read -/
theorem wpl_load_ent (x : Operand) (b o i : Nat) (A : List Ent) (n : Int) (hx : a.eval x = .pointer (some ⟨b, o, none⟩)) (hL : LnAt w b A n) (ho : o = i * 7) (hi : i < A.length)
    (h : wpList Tryd.prog ops Q rest (a.put dst (.agg (A[i]).cells.toArray)) w) :
    wpList Tryd.prog ops Q (Oper.mk dst (.load 52 x) ty pos aft none :: rest) a w := by
  subst ho
  exact wpList_load_mid rfl 52 x rfl b (i * 7) hx (A[i]).cells _ (fun j v hv => by
    have hj : j < 7 := (List.getElem?_eq_some_iff.1 hv).1
    have := hL.cell i j (by have := hL.len; omega) hj
    rw [this]; exact hv) Tryd.underlying52 rfl ent_info h
/-- a frame of a line is read -/
theorem wpl_load_fr (x : Operand) (b o i : Nat) (A : List Ent) (n : Int) (hx : a.eval x = .pointer (some ⟨b, o, none⟩)) (hL : LnAt w b A n) (ho : o = i * 7 + 1) (hi : i < A.length)
    (h : wpList Tryd.prog ops Q rest (a.put dst (.agg (A[i]).v.cells.toArray)) w) :
    wpList Tryd.prog ops Q (Oper.mk dst (.load 25 x) ty pos aft none :: rest) a w := by
  subst ho
  exact wpList_load_mid rfl 25 x rfl b (i * 7 + 1) hx (A[i]).v.cells _ (fun j v hv => by
    have hj : j < 6 := (List.getElem?_eq_some_iff.1 hv).1
    have := hL.cell i (j + 1) (by have := hL.len; omega) (by omega)
    rw [show i * 7 + 1 + j = i * 7 + (j + 1) by omega, this]; exact hv) Tryd.underlying25 rfl fr_info h
/-- the whole line is read -/
theorem wpl_load_line (x : Operand) (b : Nat) (A : List Ent) (n : Int) (hx : a.eval x = .pointer (some ⟨b, 0, none⟩)) (hL : LnAt w b A n)
    (h : wpList Tryd.prog ops Q rest (a.put dst (.agg (lnC A n).toArray)) w) :
    wpList Tryd.prog ops Q (Oper.mk dst (.load 55 x) ty pos aft none :: rest) a w :=
  wpList_load_mid rfl 55 x rfl b 0 hx (lnC A n) _ (fun j v hv => by
    rw [Nat.zero_add, cell_of_row w b _ _ _ _ hL.row, List.getElem?_toArray]; exact hv) Tryd.underlying55 rfl (by rw [line_info, lnC_len, hL.len]) h
theorem set_row {b o : Nat} {C : Array Value} {t : TypeId} {vs : List Value} (hb : w.heap[b]? = some (.cells C t (0, 0))) (hl : o + vs.length ≤ C.size) (h1 : ∀ v ∈ vs, v.oneCell' = true) :
    w.setCells b o vs = w.setRow b (C.toList.take o ++ vs ++ C.toList.drop (o + vs.length)).toArray := by
  have e1 := run_storeCells_at Tryd.prog b o t vs 0 C w hb (by omega) h1
  have e2 := run_storeCells_cells (P := Tryd.prog) b o vs 0 w (fun j hj => by rw [cell_of_row w b _ _ _ _ hb]; simp; omega) (fun j hj => frozen_of_row w b _ _ _ hb) h1
  rw [e1] at e2
  simp only [Nat.add_zero] at e2
  injection e2 with _ e3
  exact e3.symm
/-- an entry is stored into a line -/
theorem wpl_store_ent (x y : Operand) (b o i : Nat) (A : List Ent) (n : Int) (e : Ent) (hx : a.eval x = .pointer (some ⟨b, o, none⟩)) (hy : a.eval y = .agg e.cells.toArray) (hL : LnAt w b A n) (ho : o = i * 7) (hi : i < A.length)
    (h : ∀ w', LnAt w' b (A.set i e) n → Tch [b] w w' → wpList Tryd.prog ops Q rest (a.put dst undef) w') :
    wpList Tryd.prog ops Q (Oper.mk dst (.store 52 x y) ty pos aft none :: rest) a w := by
  subst ho
  have hlen : e.cells.length = 7 := rfl
  have hsz := lnC_arr A n hL.len
  have h32 := hL.len
  have hset := set_row (o := i * 7) hL.row (by rw [hlen, hsz]; omega) (ent_one e)
  rw [hlen, lnC_set A n i e hi] at hset
  refine wpList_store_mid rfl 52 x y rfl b (i * 7) e.cells.toArray hx hy (fun j hj => ⟨?_, frozen_of_row w b _ _ _ hL.row⟩) ent_info (all_oneCell_toArray (ent_one e)) ?_
  · have hj' : j < 7 := hj
    rw [cell_of_row w b _ _ _ _ hL.row]; rw [Array.getElem?_eq_getElem (by rw [hsz]; omega)]; rfl
  · rw [hset]
    exact h _ ⟨by rw [List.length_set]; exact h32, setRow_heap w b _ _ _ _ hL.row⟩ (tch_row _)
theorem LnAt.setSize {b : Nat} {A : List Ent} {n : Int} (hL : LnAt w b A n) (m : Int) : LnAt (w.setCell ⟨b, 224, none⟩ (.int .i64 m)) b A m := by
  refine ⟨hL.len, ?_⟩
  rw [heap_setCell_same w b 224 _ _ (.int .i64 m) hL.row]
  have := lnC_setSize A n m
  rw [hL.len] at this
  rw [List.setIfInBounds_toArray, this]
theorem LnAt.frozen {b : Nat} {A : List Ent} {n : Int} (hL : LnAt w b A n) (k : Nat) : w.frozen? ⟨b, k, none⟩ = false := frozen_of_row w b k _ _ hL.row
/-- a whole line is stored -/
theorem wpl_store_line (x y : Operand) (b : Nat) (A B : List Ent) (n m : Int) (hx : a.eval x = .pointer (some ⟨b, 0, none⟩)) (hy : a.eval y = .agg (lnC B m).toArray) (hL : LnAt w b A n) (hB : B.length = 32)
    (h : ∀ w', LnAt w' b B m → Tch [b] w w' → wpList Tryd.prog ops Q rest (a.put dst undef) w') :
    wpList Tryd.prog ops Q (Oper.mk dst (.store 55 x y) ty pos aft none :: rest) a w := by
  have hsz := lnC_arr A n hL.len
  have hsz2 := lnC_arr B m hB
  have hlen : (lnC B m).length = 225 := by rw [lnC_len, hB]
  have hset := set_row (o := 0) hL.row (by rw [hlen, hsz]; omega) (lnC_one B m)
  rw [Nat.zero_add, List.take_zero, List.nil_append, List.drop_of_length_le (by rw [hlen]; simp [lnC_len, hL.len]), List.append_nil] at hset
  refine wpList_store_mid rfl 55 x y rfl b 0 (lnC B m).toArray hx hy (fun j hj => ⟨?_, frozen_of_row w b _ _ _ hL.row⟩) (by rw [line_info, hsz2]) (all_oneCell_toArray (lnC_one B m)) ?_
  · rw [hsz2] at hj
    rw [cell_of_row w b _ _ _ _ hL.row]; rw [Array.getElem?_eq_getElem (by rw [hsz]; omega)]; rfl
  · show wpList _ _ _ _ _ (w.setCells b 0 (lnC B m))
    rw [hset]
    exact h _ ⟨hB, setRow_heap w b _ _ _ _ hL.row⟩ (tch_row _)
end
end Bw
end Go.Proofs.YthdffdobkampaaaDoor

/- Several rows at a time on one bus: plain facts on lists; of no program. -/
namespace Go.Proofs.YthdffdobkampaaaDoor
namespace Bw
open Bm

/-- the first place at which two rows differ, -1 if none within both -/
def difA : List UInt8 → List UInt8 → Nat → Int
  | x :: a, y :: b, i => if x = y then difA a b (i + 1) else i
  | [], _, _ => -1
  | _ :: _, [], _ => -1
def dif (a b : List UInt8) : Int := difA a b 0
theorem difA_cases : ∀ (a b : List UInt8) (i : Nat), (difA a b i = -1 ∧ (a <+: b ∨ b <+: a)) ∨ (∃ k : Nat, difA a b i = (i + k : Nat) ∧ k < a.length ∧ k < b.length ∧ a.take k = b.take k ∧ a.getD k 0 ≠ b.getD k 0)
  | [], b, _ => .inl ⟨by cases b <;> rfl, .inl (List.nil_prefix)⟩
  | _ :: _, [], _ => .inl ⟨rfl, .inr (List.nil_prefix)⟩
  | x :: a, y :: b, i => by
    by_cases h : x = y
    · subst h
      have e : difA (x :: a) (x :: b) i = difA a b (i + 1) := by rw [difA, if_pos rfl]
      rw [e]
      rcases difA_cases a b (i + 1) with ⟨h1, h2⟩ | ⟨k, h1, h2, h3, h4, h5⟩
      · refine .inl ⟨h1, ?_⟩
        rcases h2 with h2 | h2
        · exact .inl ((List.cons_prefix_cons).2 ⟨rfl, h2⟩)
        · exact .inr ((List.cons_prefix_cons).2 ⟨rfl, h2⟩)
      · exact .inr ⟨k + 1, by rw [h1]; congr 1; omega, by simpa using h2, by simpa using h3, by simp [h4], by simpa using h5⟩
    · exact .inr ⟨0, by rw [difA, if_neg h]; rfl, by simp, by simp, rfl, by simpa using h⟩
theorem dif_cases (a b : List UInt8) : (dif a b = -1 ∧ (a <+: b ∨ b <+: a)) ∨ (∃ k : Nat, dif a b = k ∧ k < a.length ∧ k < b.length ∧ a.take k = b.take k ∧ a.getD k 0 ≠ b.getD k 0) := by
  rcases difA_cases a b 0 with h | ⟨k, h1, h2⟩
  · exact .inl h
  · exact .inr ⟨k, by unfold dif; rw [h1]; congr 1; omega, h2⟩
theorem dif_self (a : List UInt8) : dif a a = -1 := by
  rcases dif_cases a a with h | ⟨k, _, _, _, _, h⟩
  · exact h.1
  · exact absurd rfl h
/-- none of these is the beginning of another one -/
def Apart (rows : List (List UInt8)) : Prop := ∀ a ∈ rows, ∀ b ∈ rows, a <+: b → a = b
theorem dif_neg {rows : List (List UInt8)} (hA : Apart rows) {a b : List UInt8} (ha : a ∈ rows) (hb : b ∈ rows) : dif a b = -1 ↔ a = b := by
  constructor
  · intro h
    rcases dif_cases a b with ⟨_, h1 | h1⟩ | ⟨k, h1, _⟩
    · exact hA a ha b hb h1
    · exact (hA b hb a ha h1).symm
    · rw [h1] at h; omega
  · rintro rfl; exact dif_self a
/-- at which bit one gave way, so many bits having been sent -/
def gaveA (best : List UInt8) (n : Nat) (r : List UInt8) : Int := if 0 ≤ dif r best ∧ dif r best < n then dif r best else -1
theorem gaveA_zero (best r : List UInt8) : gaveA best 0 r = -1 := by unfold gaveA; rw [if_neg (by omega)]
theorem dif_lt (r best : List UInt8) : dif r best < best.length := by
  rcases dif_cases r best with ⟨h, _⟩ | ⟨k, h, _, h2, _⟩ <;> omega
theorem gaveA_all (best r : List UInt8) (n : Nat) (h : best.length ≤ n) : gaveA best n r = dif r best := by
  unfold gaveA
  have h1 := dif_lt r best
  by_cases h0 : 0 ≤ dif r best
  · rw [if_pos ⟨h0, by omega⟩]
  · rw [if_neg (fun h => h0 h.1)]
    rcases dif_cases r best with ⟨h, _⟩ | ⟨k, h, _⟩ <;> omega
/-- who still sends has sent the same bits so far, and has one more -/
theorem gave_on {rows : List (List UInt8)} (hA : Apart rows) {r best : List UInt8} (hr : r ∈ rows) (hb : best ∈ rows) {n : Nat} (hn : n < best.length) (h : gaveA best n r = -1) : n < r.length ∧ r.take n = best.take n := by
  unfold gaveA at h
  rcases dif_cases r best with ⟨h1, h2⟩ | ⟨k, h1, h2, h3, h4, h5⟩
  · have e := (dif_neg hA hr hb).1 h1
    rw [e]; exact ⟨hn, rfl⟩
  · have hk : n ≤ k := by
      rcases Nat.lt_or_ge k n with hx | hx
      · rw [if_pos (by omega)] at h; omega
      · exact hx
    refine ⟨by omega, ?_⟩
    have := congrArg (List.take n) h4
    rw [List.take_take, List.take_take, Nat.min_eq_left hk] at this
    exact this
theorem gave_off {rows : List (List UInt8)} (hA : Apart rows) {r best : List UInt8} (hr : r ∈ rows) (hb : best ∈ rows) {n : Nat} (hn : best.length ≤ n) (h : gaveA best n r = -1) : r = best := by
  rw [gaveA_all best r n hn] at h
  exact (dif_neg hA hr hb).1 h
/-- one text is ahead of another -/
theorem less_cases : ∀ (a b : List UInt8), Op.bytesLess a b = true ↔ (a <+: b ∧ a ≠ b) ∨ (∃ k, k < a.length ∧ k < b.length ∧ a.take k = b.take k ∧ a.getD k 0 < b.getD k 0)
  | [], [] => by simp [Op.bytesLess]
  | [], y :: b => by simp [Op.bytesLess]
  | x :: a, [] => by simp [Op.bytesLess]
  | x :: a, y :: b => by
    have ih := less_cases a b
    by_cases h : x = y
    · subst h
      have e : Op.bytesLess (x :: a) (x :: b) = Op.bytesLess a b := by simp [Op.bytesLess]
      rw [e, ih]
      constructor
      · rintro (⟨h1, h2⟩ | ⟨k, h1, h2, h3, h4⟩)
        · exact .inl ⟨(List.cons_prefix_cons).2 ⟨rfl, h1⟩, fun e => h2 (by injection e)⟩
        · exact .inr ⟨k + 1, by simpa using h1, by simpa using h2, by simp [h3], by simpa using h4⟩
      · rintro (⟨h1, h2⟩ | ⟨k, h1, h2, h3, h4⟩)
        · exact .inl ⟨((List.cons_prefix_cons).1 h1).2, fun e => h2 (by rw [e])⟩
        · cases k with
          | zero => simp at h4
          | succ k => exact .inr ⟨k, by simpa using h1, by simpa using h2, by simpa using h3, by simpa using h4⟩
    · have e : Op.bytesLess (x :: a) (y :: b) = decide (x < y) := by simp [Op.bytesLess, h]
      rw [e]
      constructor
      · intro hlt
        exact .inr ⟨0, by simp, by simp, rfl, by simpa using hlt⟩
      · rintro (⟨h1, h2⟩ | ⟨k, h1, h2, h3, h4⟩)
        · exact absurd ((List.cons_prefix_cons).1 h1).1 h
        · cases k with
          | zero => simpa using h4
          | succ k => simp at h3; exact absurd h3.1 h
/-- none is ahead of this one -/
def Least (rows : List (List UInt8)) (best : List UInt8) : Prop := best ∈ rows ∧ ∀ r ∈ rows, Op.bytesLess r best = false
/-- where the least one sends a 1, so do all that still send -/
theorem least_one {rows : List (List UInt8)} (hA : Apart rows) (hrow : ∀ r ∈ rows, rowB r = true) {best r : List UInt8} (hL : Least rows best) (hr : r ∈ rows) {n : Nat} (hn : n < best.length) (h : gaveA best n r = -1) (h1 : best.getD n 0 = 49) : r.getD n 0 = 49 := by
  obtain ⟨h2, h3⟩ := gave_on hA hr hL.1 hn h
  have hbit : bit (r.getD n 0) = true := by
    rw [List.getD, List.getElem?_eq_getElem h2, Option.getD_some]
    have := hrow r hr
    unfold rowB at this
    exact List.all_eq_true.1 this _ (List.getElem_mem h2)
  have hno : ¬ (r.getD n 0 < best.getD n 0) := by
    intro hlt
    have := hL.2 r hr
    rw [(less_cases r best).2 (.inr ⟨n, h2, hn, h3, hlt⟩)] at this
    cases this
  rw [h1] at hno
  rcases (bit_iff (r.getD n 0)).1 hbit with hx | hx
  · exfalso
    apply hno
    rw [UInt8.lt_iff_toNat_lt]
    show (r.getD n 0).toNat < 49
    omega
  · have : (r.getD n 0).toNat = 49 := by omega
    exact UInt8.toNat_inj.1 this
theorem gave_next {rows : List (List UInt8)} (hA : Apart rows) {r best : List UInt8} (hr : r ∈ rows) (hb : best ∈ rows) {n : Nat} (hn : n < best.length) : gaveA best (n + 1) r = if gaveA best n r = -1 ∧ r.getD n 0 ≠ best.getD n 0 then (n : Int) else gaveA best n r := by
  by_cases h : gaveA best n r = -1
  · obtain ⟨h2, h3⟩ := gave_on hA hr hb hn h
    by_cases hx : r.getD n 0 = best.getD n 0
    · rw [if_neg (fun y => y.2 hx), h]
      unfold gaveA at h ⊢
      rcases dif_cases r best with ⟨q1, q2⟩ | ⟨k, q1, q2, q3, q4, q5⟩
      · rw [if_neg (by omega)]
      · have hk : n ≤ k := by
          rcases Nat.lt_or_ge k n with hy | hy
          · rw [if_pos (by omega)] at h; omega
          · exact hy
        have hk2 : k ≠ n := fun e => q5 (by rw [e]; exact hx)
        rw [if_neg (by omega)]
    · rw [if_pos ⟨h, hx⟩]
      unfold gaveA at h ⊢
      rcases dif_cases r best with ⟨q1, q2⟩ | ⟨k, q1, q2, q3, q4, q5⟩
      · have e := (dif_neg hA hr hb).1 q1
        exact absurd (by rw [e]) hx
      · have hk : n ≤ k := by
          rcases Nat.lt_or_ge k n with hy | hy
          · rw [if_pos (by omega)] at h; omega
          · exact hy
        have hk2 : k = n := by
          rcases Nat.lt_or_ge n k with hy | hy
          · exfalso
            apply hx
            have := congrArg (fun l => List.getD l n 0) q4
            simpa [List.getD, List.getElem?_take, hy] using this
          · omega
        rw [if_pos (by omega), q1, hk2]
  · rw [if_neg (fun y => h y.1)]
    unfold gaveA at h ⊢
    have hx : 0 ≤ dif r best ∧ dif r best < n := by
      rcases Classical.em (0 ≤ dif r best ∧ dif r best < n) with y | y
      · exact y
      · rw [if_neg y] at h; exact absurd rfl h
    rw [if_pos hx, if_pos (by omega)]
end Bw
end Go.Proofs.YthdffdobkampaaaDoor

/- The least of several texts: plain facts on lists; of no program. -/
namespace Go.Proofs.YthdffdobkampaaaDoor
namespace Bw
open Bm
theorem less_irr : ∀ a : List UInt8, Op.bytesLess a a = false
  | [] => rfl
  | x :: a => by simp [Op.bytesLess, less_irr a]
theorem less_tot : ∀ a b : List UInt8, Op.bytesLess a b = false → Op.bytesLess b a = false → a = b
  | [], [], _, _ => rfl
  | [], y :: b, h, _ => by simp [Op.bytesLess] at h
  | x :: a, [], _, h => by simp [Op.bytesLess] at h
  | x :: a, y :: b, h1, h2 => by
    by_cases h : x = y
    · subst h
      simp [Op.bytesLess] at h1 h2
      rw [less_tot a b h1 h2]
    · have h' : ¬ y = x := fun e => h e.symm
      simp [Op.bytesLess, h] at h1
      simp [Op.bytesLess, h'] at h2
      exact absurd (UInt8.le_antisymm h2 h1) h
theorem less_tr : ∀ a b c : List UInt8, Op.bytesLess a b = true → Op.bytesLess b c = true → Op.bytesLess a c = true
  | _, [], [], h, _ => by
    rename_i a; cases a <;> simp [Op.bytesLess] at h
  | [], _, z :: c, _, _ => by simp [Op.bytesLess]
  | a, y :: b, [], _, h => by simp [Op.bytesLess] at h
  | x :: a, [], _, h, _ => by simp [Op.bytesLess] at h
  | x :: a, y :: b, z :: c, h1, h2 => by
    by_cases h : x = y
    · subst h
      by_cases h' : x = z
      · subst h'
        simp [Op.bytesLess] at h1 h2 ⊢
        exact less_tr a b c h1 h2
      · simp [Op.bytesLess, h'] at h2 ⊢
        exact h2
    · simp [Op.bytesLess, h] at h1
      by_cases h' : y = z
      · subst h'
        simp [Op.bytesLess, h]
        exact h1
      · simp [Op.bytesLess, h'] at h2
        have h3 := UInt8.lt_trans h1 h2
        have h4 : ¬ x = z := fun e => by rw [e] at h3; exact absurd h3 (UInt8.lt_irrefl _)
        simp [Op.bytesLess, h4]
        exact h3
theorem less_ne {a b : List UInt8} (h : Op.bytesLess a b = true) : a ≠ b := fun e => by rw [e, less_irr] at h; cases h
theorem less_not {a b : List UInt8} (h : Op.bytesLess a b = true) : Op.bytesLess b a = false := by
  rcases Bool.eq_false_or_eq_true (Op.bytesLess b a) with h' | h'
  · have := less_tr a b a h h'
    rw [less_irr] at this; cases this
  · exact h'
/-- the lesser of two texts, the first one if they are alike -/
def minB (m x : List UInt8) : List UInt8 := if Op.bytesLess x m = true then x else m
def minJ (l : List (List UInt8)) : Nat → List UInt8
  | 0 => l.getD 0 []
  | i + 1 => minB (minJ l i) (l.getD (i + 1) [])
theorem minB_or (m x : List UInt8) : minB m x = x ∨ minB m x = m := by unfold minB; split; exact .inl rfl; exact .inr rfl
theorem minB_le (m x : List UInt8) : Op.bytesLess x (minB m x) = false ∧ Op.bytesLess m (minB m x) = false := by
  unfold minB
  split
  · rename_i h
    refine ⟨less_irr x, ?_⟩
    rcases Bool.eq_false_or_eq_true (Op.bytesLess m x) with h' | h'
    · have := less_tr x m x h h'
      rw [less_irr] at this; cases this
    · exact h'
  · rename_i h
    exact ⟨by simpa using h, less_irr m⟩
theorem less_le {a b c : List UInt8} (h1 : Op.bytesLess a b = false) (h2 : Op.bytesLess b c = false) : Op.bytesLess a c = false := by
  rcases Bool.eq_false_or_eq_true (Op.bytesLess a c) with h | h
  · rcases Bool.eq_false_or_eq_true (Op.bytesLess b a) with h3 | h3
    · have := less_tr b a c h3 h
      rw [h2] at this; cases this
    · have e := less_tot a b h1 h3
      rw [e, h2] at h; cases h
  · exact h
theorem minJ_least (l : List (List UInt8)) : ∀ i, i < l.length → minJ l i ∈ l.take (i + 1) ∧ ∀ k, k ≤ i → Op.bytesLess (l.getD k []) (minJ l i) = false
  | 0, h => by
    refine ⟨?_, fun k hk => ?_⟩
    · show l.getD 0 [] ∈ _
      have : l.getD 0 [] = l[0] := by simp [List.getD, h]
      rw [this]
      exact List.mem_take_iff_getElem.2 ⟨0, by omega, rfl⟩
    · have : k = 0 := by omega
      subst this; exact less_irr _
  | i + 1, h => by
    obtain ⟨h1, h2⟩ := minJ_least l i (by omega)
    obtain ⟨m1, m2⟩ := minB_le (minJ l i) (l.getD (i + 1) [])
    refine ⟨?_, fun k hk => ?_⟩
    · rcases minB_or (minJ l i) (l.getD (i + 1) []) with e | e
      · rw [minJ, e]
        have : l.getD (i + 1) [] = l[i + 1] := by simp [List.getD, h]
        rw [this]
        exact List.mem_take_iff_getElem.2 ⟨i + 1, by omega, rfl⟩
      · rw [minJ, e]
        obtain ⟨j, hj, hx⟩ := List.mem_take_iff_getElem.1 h1
        exact List.mem_take_iff_getElem.2 ⟨j, by omega, hx⟩
    · rcases Nat.lt_or_ge i k with hx | hx
      · have : k = i + 1 := by omega
        subst this; exact m1
      · exact less_le (h2 k hx) m2
def minL (l : List (List UInt8)) : List UInt8 := minJ l (l.length - 1)
theorem minL_least (l : List (List UInt8)) (h : l ≠ []) : Least l (minL l) := by
  have hl : 0 < l.length := List.length_pos_iff.2 h
  obtain ⟨h1, h2⟩ := minJ_least l (l.length - 1) (by omega)
  refine ⟨List.mem_of_mem_take h1, fun r hr => ?_⟩
  obtain ⟨k, hk, rfl⟩ := List.getElem_of_mem hr
  have := h2 k (by omega)
  rw [show l.getD k [] = l[k] by simp [List.getD, hk]] at this
  exact this
/-- the least is one alone -/
theorem least_one_only {l : List (List UInt8)} {a b : List UInt8} (ha : Least l a) (hb : Least l b) : a = b := less_tot a b (hb.2 a ha.1) (ha.2 b hb.1)
end Bw
end Go.Proofs.YthdffdobkampaaaDoor

/- The order in a queue: plain facts on lists; of no program. -/
namespace Go.Proofs.YthdffdobkampaaaDoor
namespace Bw
open Bm Cm
/-- behind how many of the first n it goes -/
def atE (nm : List UInt8) (l : List (List UInt8)) : Nat → Nat
  | 0 => 0
  | n + 1 => if Op.bytesLess nm (l.getD n []) = true then atE nm l n else n + 1
def insAt {α : Type} (l : List α) (i : Nat) (x : α) : List α := l.take i ++ x :: l.drop i
def atF (l : List Fr) (f : Fr) : Nat := atE (nameL f) (l.map nameL) l.length
def putF (l : List Fr) (f : Fr) : List Fr := insAt l (atF l f) f
def mrgF (a b : List Fr) : List Fr := b.foldl putF a
theorem atE_le (nm : List UInt8) (l : List (List UInt8)) : ∀ n, atE nm l n ≤ n
  | 0 => Nat.le_refl _
  | n + 1 => by
    unfold atE
    split
    · exact Nat.le_succ_of_le (atE_le nm l n)
    · exact Nat.le_refl _
theorem atE_behind (nm : List UInt8) (l : List (List UInt8)) : ∀ n j, atE nm l n ≤ j → j < n → Op.bytesLess nm (l.getD j []) = true
  | 0, j, _, h => absurd h (Nat.not_lt_zero _)
  | n + 1, j, h1, h2 => by
    unfold atE at h1
    split at h1
    · rename_i hl
      by_cases hj : j = n
      · subst hj; exact hl
      · exact atE_behind nm l n j h1 (by omega)
    · omega
theorem atE_ahead (nm : List UInt8) (l : List (List UInt8)) : ∀ n, 0 < atE nm l n → Op.bytesLess nm (l.getD (atE nm l n - 1) []) = false
  | 0, h => absurd h (Nat.not_lt_zero _)
  | n + 1, h => by
    unfold atE at h ⊢
    split at h
    · rename_i hl
      rw [if_pos hl]
      exact atE_ahead nm l n h
    · rename_i hl
      rw [if_neg hl]
      simpa using hl
theorem atE_congr (nm : List UInt8) (l m : List (List UInt8)) : ∀ n, (∀ j, j < n → l.getD j [] = m.getD j []) → atE nm l n = atE nm m n
  | 0, _ => rfl
  | n + 1, h => by
    unfold atE
    rw [h n (Nat.lt_succ_self _), atE_congr nm l m n (fun j hj => h j (Nat.lt_succ_of_lt hj))]
theorem insAt_len {α : Type} (l : List α) (i : Nat) (x : α) : (insAt l i x).length = l.length + 1 := by
  unfold insAt
  simp only [List.length_append, List.length_take, List.length_cons, List.length_drop]
  omega
theorem insAt_map {α β : Type} (g : α → β) (l : List α) (i : Nat) (x : α) : (insAt l i x).map g = insAt (l.map g) i (g x) := by
  unfold insAt; simp [List.map_take, List.map_drop]
theorem insAt_mem {α : Type} (l : List α) (i : Nat) (x y : α) : y ∈ insAt l i x ↔ y = x ∨ y ∈ l := by
  unfold insAt
  constructor
  · intro h
    rcases List.mem_append.1 h with h | h
    · exact .inr (List.mem_of_mem_take h)
    · rcases List.mem_cons.1 h with h | h
      · exact .inl h
      · exact .inr (List.mem_of_mem_drop h)
  · intro h
    rcases h with h | h
    · exact List.mem_append.2 (.inr (List.mem_cons.2 (.inl h)))
    · rw [← List.take_append_drop i l] at h
      rcases List.mem_append.1 h with h | h
      · exact List.mem_append.2 (.inl h)
      · exact List.mem_append.2 (.inr (List.mem_cons.2 (.inr h)))
theorem putF_len (l : List Fr) (f : Fr) : (putF l f).length = l.length + 1 := insAt_len _ _ _
theorem mrgF_len (b : List Fr) : ∀ a, (mrgF a b).length = a.length + b.length := by
  induction b with
  | nil => intro a; rfl
  | cons f b ih => intro a; show (mrgF (putF a f) b).length = _; rw [ih, putF_len, List.length_cons]; omega
theorem putF_mem (l : List Fr) (f y : Fr) : y ∈ putF l f ↔ y = f ∨ y ∈ l := insAt_mem _ _ _ _
theorem mrgF_mem (b : List Fr) : ∀ a y, y ∈ mrgF a b ↔ y ∈ a ∨ y ∈ b := by
  induction b with
  | nil => intro a y; show y ∈ a ↔ _; simp
  | cons f b ih =>
    intro a y
    show y ∈ mrgF (putF a f) b ↔ _
    rw [ih, putF_mem, List.mem_cons]
    constructor
    · rintro ((h | h) | h)
      · exact .inr (.inl h)
      · exact .inl h
      · exact .inr (.inr h)
    · rintro (h | h | h)
      · exact .inl (.inr h)
      · exact .inl (.inl h)
      · exact .inr h
def ordF (a b : Fr) : Prop := Op.bytesLess (nameL b) (nameL a) = false
def SortF (l : List Fr) : Prop := l.Pairwise ordF
theorem ordF_tr {a b c : Fr} (h1 : ordF a b) (h2 : ordF b c) : ordF a c := less_le h2 h1
theorem map_getD (l : List Fr) (j : Nat) (h : j < l.length) : (l.map nameL).getD j [] = nameL l[j] := by simp [List.getD, h]
theorem putF_sort {l : List Fr} (h : SortF l) (f : Fr) : SortF (putF l f) := by
  unfold SortF putF insAt
  have hle := atE_le (nameL f) (l.map nameL) l.length
  have hb := atE_behind (nameL f) (l.map nameL) l.length
  have ha := atE_ahead (nameL f) (l.map nameL) l.length
  unfold atF
  generalize atE (nameL f) (l.map nameL) l.length = i at *
  have hs : SortF (l.take i ++ l.drop i) := by rw [List.take_append_drop]; exact h
  obtain ⟨s1, s2, s3⟩ := List.pairwise_append.1 hs
  have hx1 : ∀ y ∈ l.take i, ordF y f := by
    intro y hy
    obtain ⟨j, hj, rfl⟩ := List.mem_iff_getElem.1 hy
    simp only [List.length_take] at hj
    rw [List.getElem_take]
    have hi : 0 < i := by omega
    have h0 := ha hi
    rw [map_getD l (i - 1) (by omega)] at h0
    by_cases e : j = i - 1
    · subst e; exact h0
    · have := List.pairwise_iff_getElem.1 h j (i - 1) (by omega) (by omega) (by omega)
      exact ordF_tr this h0
  have hx2 : ∀ y ∈ l.drop i, ordF f y := by
    intro y hy
    obtain ⟨j, hj, rfl⟩ := List.mem_iff_getElem.1 hy
    simp only [List.length_drop] at hj
    rw [List.getElem_drop]
    have h0 := hb (i + j) (by omega) (by omega)
    rw [map_getD l (i + j) (by omega)] at h0
    exact less_not h0
  refine List.pairwise_append.2 ⟨s1, List.pairwise_cons.2 ⟨hx2, s2⟩, ?_⟩
  intro y hy z hz
  rcases List.mem_cons.1 hz with rfl | hz
  · exact hx1 y hy
  · exact s3 y hy z hz
theorem mrgF_sort (b : List Fr) : ∀ {a}, SortF a → SortF (mrgF a b) := by
  induction b with
  | nil => intro a h; exact h
  | cons f b ih => intro a h; exact ih (putF_sort h f)
/-- the first is ahead of all -/
theorem sort_head {l : List Fr} (h : SortF l) (h0 : 0 < l.length) : ∀ y ∈ l, Op.bytesLess (nameL y) (nameL l[0]) = false := by
  intro y hy
  obtain ⟨j, hj, rfl⟩ := List.mem_iff_getElem.1 hy
  by_cases e : j = 0
  · subst e; exact less_irr _
  · exact List.pairwise_iff_getElem.1 h 0 j h0 hj (by omega)
/-- what is wrong with the one at i, if those ahead of it are right -/
def stepQ (l : List Fr) (i : Nat) : Int :=
  if frE (l.getD i ⟨0, false, false, false, 0, []⟩) ≠ 0 then frE (l.getD i ⟨0, false, false, false, 0, []⟩)
  else if 0 < i ∧ Op.bytesLess (nameL (l.getD i ⟨0, false, false, false, 0, []⟩)) (nameL (l.getD (i - 1) ⟨0, false, false, false, 0, []⟩)) = true then 4 else 0
def chkK (l : List Fr) : Nat → Int
  | 0 => 0
  | i + 1 => if chkK l i = 0 then stepQ l i else chkK l i
def chkQ (l : List Fr) : Int := if 16 < l.length then 2 else chkK l l.length
theorem chkK_stop {l : List Fr} {i : Nat} (h : chkK l i ≠ 0) : ∀ n, i ≤ n → chkK l n = chkK l i := by
  intro n hn
  induction n with
  | zero => have : i = 0 := by omega
            rw [this]
  | succ n ih =>
    by_cases e : i = n + 1
    · rw [e]
    · have := ih (by omega)
      show (if chkK l n = 0 then _ else _) = _
      rw [this, if_neg h]
theorem chkK_next {l : List Fr} {i : Nat} (h : chkK l i = 0) : chkK l (i + 1) = stepQ l i := if_pos h
theorem chkK_zero {l : List Fr} : ∀ {n}, chkK l n = 0 → ∀ i, i < n → stepQ l i = 0
  | 0, _, i, hi => absurd hi (Nat.not_lt_zero _)
  | n + 1, h, i, hi => by
    by_cases h0 : chkK l n = 0
    · rw [chkK_next h0] at h
      by_cases e : i = n
      · rw [e]; exact h
      · exact chkK_zero h0 i (by omega)
    · have := chkK_stop h0 (n + 1) (Nat.le_succ _)
      rw [h] at this
      exact absurd this.symm h0
theorem stepQ_ok {l : List Fr} {i : Nat} (hi : i < l.length) (h : stepQ l i = 0) : frE l[i] = 0 ∧ (∀ h0 : 0 < i, ordF (l[i - 1]'(by omega)) l[i]) := by
  unfold stepQ at h
  have e : l.getD i ⟨0, false, false, false, 0, []⟩ = l[i] := by simp [List.getD, hi]
  have e1 : l.getD (i - 1) ⟨0, false, false, false, 0, []⟩ = l[i - 1]'(by omega) := by simp [List.getD, show i - 1 < l.length by omega]
  rw [e, e1] at h
  split at h
  · rename_i h1; exact absurd h h1
  · rename_i h1
    split at h
    · cases h
    · rename_i h2
      refine ⟨by simpa using h1, fun h0 => ?_⟩
      unfold ordF
      rcases Bool.eq_false_or_eq_true (Op.bytesLess (nameL l[i]) (nameL (l[i - 1]'(by omega)))) with h3 | h3
      · exact absurd ⟨h0, h3⟩ h2
      · exact h3
theorem chk_ok {l : List Fr} (h : chkQ l = 0) : l.length ≤ 16 ∧ (∀ f ∈ l, frE f = 0) ∧ SortF l := by
  unfold chkQ at h
  split at h
  · cases h
  · rename_i hl
    have hz := chkK_zero h
    have hs : ∀ i (hi : i < l.length), frE l[i] = 0 ∧ (∀ h0 : 0 < i, ordF (l[i - 1]'(by omega)) l[i]) := fun i hi => stepQ_ok hi (hz i hi)
    refine ⟨by omega, ?_, ?_⟩
    · intro f hf
      obtain ⟨j, hj, rfl⟩ := List.mem_iff_getElem.1 hf
      exact (hs j hj).1
    · refine List.pairwise_iff_getElem.2 ?_
      intro i j hi hj hij
      obtain ⟨k, rfl⟩ : ∃ k, j = i + 1 + k := ⟨j - i - 1, by omega⟩
      clear hij
      induction k with
      | zero => exact (hs (i + 1) hj).2 (by omega)
      | succ k ih => exact ordF_tr (ih (by omega)) ((hs (i + 1 + (k + 1)) hj).2 (by omega))
theorem ok_chk {l : List Fr} (h1 : l.length ≤ 16) (h2 : ∀ f ∈ l, frE f = 0) (h3 : SortF l) : chkQ l = 0 := by
  unfold chkQ
  rw [if_neg (by omega)]
  have hs : ∀ i, i < l.length → stepQ l i = 0 := by
    intro i hi
    unfold stepQ
    have e : l.getD i ⟨0, false, false, false, 0, []⟩ = l[i] := by simp [List.getD, hi]
    have e1 : l.getD (i - 1) ⟨0, false, false, false, 0, []⟩ = l[i - 1]'(by omega) := by simp [List.getD, show i - 1 < l.length by omega]
    rw [e, e1, if_neg (by simpa using h2 _ (List.getElem_mem hi)), if_neg]
    rintro ⟨h0, h⟩
    have := List.pairwise_iff_getElem.1 h3 (i - 1) i (by omega) hi (by omega)
    unfold ordF at this
    rw [this] at h; cases h
  have : ∀ n, n ≤ l.length → chkK l n = 0 := by
    intro n
    induction n with
    | zero => intro _; rfl
    | succ n ih => intro hn; rw [chkK_next (ih (by omega)), hs n (by omega)]
  exact this _ (Nat.le_refl _)
theorem putF_ok {l : List Fr} {f : Fr} (h : chkQ l = 0) (hf : frE f = 0) (hn : l.length < 16) : chkQ (putF l f) = 0 := by
  obtain ⟨h1, h2, h3⟩ := chk_ok h
  refine ok_chk (by rw [putF_len]; omega) (fun y hy => ?_) (putF_sort h3 f)
  rcases (putF_mem l f y).1 hy with rfl | hy
  · exact hf
  · exact h2 y hy
theorem mrgF_ok {a b : List Fr} (ha : chkQ a = 0) (hb : chkQ b = 0) : chkQ ((mrgF a b).take 16) = 0 := by
  obtain ⟨a1, a2, a3⟩ := chk_ok ha
  obtain ⟨b1, b2, _⟩ := chk_ok hb
  refine ok_chk (by simp [List.length_take]; omega) (fun y hy => ?_) ((mrgF_sort b a3).sublist (List.take_sublist _ _))
  rcases (mrgF_mem b a y).1 (List.mem_of_mem_take hy) with hy | hy
  · exact a2 y hy
  · exact b2 y hy
end Bw
end Go.Proofs.YthdffdobkampaaaDoor
