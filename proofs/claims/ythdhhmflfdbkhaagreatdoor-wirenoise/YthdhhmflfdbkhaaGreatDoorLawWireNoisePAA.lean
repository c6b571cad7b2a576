/- Joined out of our texts: FrSmall, FrCheck, BitsNumber, BitsRow, FrName, BitsOf, FrHead, FrCount, StepMath, CheckNext, CheckOf, CheckSm, StuffAdd. -/
import Derived.Test.YthdhhmflfdbkhaaGreatDoorIdxMath
import Derived.Test.YthdhhmflfdbkhaaGreatDoorLawWireNoiseRAB
import Derived.Test.YthdhhmflfdbkhaaGreatDoorFrameOpen
import Derived.Test.YthdhhmflfdbkhaaGreatDoorLawWireNoiseRAF
import Derived.Test.YthdhhmflfdbkhaaGreatDoorBase8
import Derived.BigQuiet
import Derived.Lib.QuietBelow
import Derived.Test.YthdhhmflfdbkhaaGreatDoorLawWireNoiseRAQ
import Derived.Test.YthdhhmflfdbkhaaGreatDoorKindMath
import Derived.Test.YthdhhmflfdbkhaaGreatDoorSumRow
import Derived.Deep.RegionWith
import Derived.Test.YthdhhmflfdbkhaaGreatDoorStuffMath
import Derived.OneCell
/- What the small functions of package frame answer: the greatest numbers, a bit, the code of a number of bytes. -/
namespace Go.Proofs.YthdhhmflfdbkhaaGreatDoor
open Go.ChangeShapes Go.WideShapes Go.ChangeAt Go.RowKit
namespace Bw
open Bm Cm

/-- the table of the numbers of bytes -/
def SizesAt (w : World) : Prop := IntsAt w 0 sizesI
theorem SizesAt.kept {w w' : World} (h : SizesAt w) (hb : Below w.heap.size w w') : SizesAt w' := fun i hi => cell_kept hb (h i hi)
set_option maxHeartbeats 1000000 in
theorem maxID_any (lo : Bool) (w : World) :
    Calls Tryz.prog 87 #[.bool lo] w fun e w' => e = .returned (.int .i64 (topI lo)) ∧ w' = w := by
  cases lo <;> (go_enter Tryz.func87, Tryz.ntmps87; go_wp2_with fail; go_ret; exact ⟨rfl, rfl⟩)
def topDI (fa : Bool) : Int := if fa then 64 else 8
set_option maxHeartbeats 1000000 in
theorem maxData_any (fa : Bool) (w : World) :
    Calls Tryz.prog 52 #[.bool fa] w fun e w' => e = .returned (.int .i64 (topDI fa)) ∧ w' = w := by
  cases fa <;> (go_enter Tryz.func52, Tryz.ntmps52; go_wp2_with fail; go_ret; exact ⟨rfl, rfl⟩)
set_option maxHeartbeats 1000000 in
theorem frBit_any (r : Bool) (w : World) :
    Calls Tryz.prog 106 #[.bool r] w fun e w' => e = .returned (.string ⟨#[bitB r]⟩) ∧ w' = w := by
  cases r <;> (go_enter Tryz.func106, Tryz.ntmps106; go_wp2_with fail; go_ret; exact ⟨rfl, rfl⟩)

theorem mem_take_succ (n : Int) (j : Nat) (hj : j < 16) (h : n ∉ sizesI.take j) (hn : n ≠ sizesI.getD j 0) : n ∉ sizesI.take (j + 1) := by
  have hl : j < sizesI.length := hj
  rw [List.take_succ_eq_append_getElem hl, List.mem_append, List.mem_singleton]
  rintro (h' | h')
  · exact h h'
  · exact hn (by rw [h']; simp [List.getD, hl])
theorem idx_at (n : Int) (j : Nat) (hj : j < 16) (h : n ∉ sizesI.take j) (hn : n = sizesI.getD j 0) : idxI sizesI n = j := by
  have hl : j < sizesI.length := hj
  have e1 : sizesI = sizesI.take j ++ sizesI.drop j := (List.take_append_drop j sizesI).symm
  have e2 : sizesI.drop j = n :: sizesI.drop (j + 1) := by rw [List.drop_eq_getElem_cons hl, hn]; simp [List.getD, hl]
  have e3 := idxI_at (sizesI.take j) (sizesI.drop (j + 1)) n h
  rw [← e2, ← e1, List.length_take] at e3
  omega
theorem sizes_index (j : Nat) (hj : j < 16) (W : World) : (Instr.index 81 (.agg #[.int .i64 0, .int .i64 1, .int .i64 2, .int .i64 3, .int .i64 4, .int .i64 5, .int .i64 6, .int .i64 7, .int .i64 8, .int .i64 12, .int .i64 16, .int .i64 20, .int .i64 24, .int .i64 32, .int .i64 48, .int .i64 64]) (.int .i64 (j : Int))).run Tryz.prog W = .ok (.int .i64 (sizesI.getD j 0)) W := by
  match j, hj with
  | 0, _ => (show _ = _); kernel_rfl
  | 1, _ => (show _ = _); kernel_rfl
  | 2, _ => (show _ = _); kernel_rfl
  | 3, _ => (show _ = _); kernel_rfl
  | 4, _ => (show _ = _); kernel_rfl
  | 5, _ => (show _ = _); kernel_rfl
  | 6, _ => (show _ = _); kernel_rfl
  | 7, _ => (show _ = _); kernel_rfl
  | 8, _ => (show _ = _); kernel_rfl
  | 9, _ => (show _ = _); kernel_rfl
  | 10, _ => (show _ = _); kernel_rfl
  | 11, _ => (show _ = _); kernel_rfl
  | 12, _ => (show _ = _); kernel_rfl
  | 13, _ => (show _ = _); kernel_rfl
  | 14, _ => (show _ = _); kernel_rfl
  | 15, _ => (show _ = _); kernel_rfl
  | n + 16, h => exact absurd h (by omega)
set_option maxHeartbeats 4000000 in
theorem codeOf_any (n : Int) (w : World) (hS : SizesAt w) :
    Calls Tryz.prog 88 #[.int .i64 n] w fun e w' => e = .returned (.int .i64 (idxI sizesI n)) ∧ w' = w := by
  have c0 : w.cell? ⟨0, 0, none⟩ = some (.int .i64 0) := hS 0 (by decide)
  have c1 : w.cell? ⟨0, 1, none⟩ = some (.int .i64 1) := hS 1 (by decide)
  have c2 : w.cell? ⟨0, 2, none⟩ = some (.int .i64 2) := hS 2 (by decide)
  have c3 : w.cell? ⟨0, 3, none⟩ = some (.int .i64 3) := hS 3 (by decide)
  have c4 : w.cell? ⟨0, 4, none⟩ = some (.int .i64 4) := hS 4 (by decide)
  have c5 : w.cell? ⟨0, 5, none⟩ = some (.int .i64 5) := hS 5 (by decide)
  have c6 : w.cell? ⟨0, 6, none⟩ = some (.int .i64 6) := hS 6 (by decide)
  have c7 : w.cell? ⟨0, 7, none⟩ = some (.int .i64 7) := hS 7 (by decide)
  have c8 : w.cell? ⟨0, 8, none⟩ = some (.int .i64 8) := hS 8 (by decide)
  have c9 : w.cell? ⟨0, 9, none⟩ = some (.int .i64 12) := hS 9 (by decide)
  have c10 : w.cell? ⟨0, 10, none⟩ = some (.int .i64 16) := hS 10 (by decide)
  have c11 : w.cell? ⟨0, 11, none⟩ = some (.int .i64 20) := hS 11 (by decide)
  have c12 : w.cell? ⟨0, 12, none⟩ = some (.int .i64 24) := hS 12 (by decide)
  have c13 : w.cell? ⟨0, 13, none⟩ = some (.int .i64 32) := hS 13 (by decide)
  have c14 : w.cell? ⟨0, 14, none⟩ = some (.int .i64 48) := hS 14 (by decide)
  have c15 : w.cell? ⟨0, 15, none⟩ = some (.int .i64 64) := hS 15 (by decide)
  clear hS
  go_enter Tryz.func88, Tryz.ntmps88
  set_option maxRecDepth 100000 in
  go_wp2_with fail
  clear c0 c1 c2 c3 c4 c5 c6 c7 c8 c9 c10 c11 c12 c13 c14 c15
  go_loopw [6] (fun i wr => ∃ j : Nat, j ≤ 16 ∧ i = .int .i64 j ∧ Hid (n ∉ sizesI.take j) ∧ wr = w) (fun i _ => 16 - (intOf i).toNat)
  case atStart => exact ⟨0, Nat.zero_le _, rfl, Hid.mk (by simp), rfl⟩
  case round =>
    obtain ⟨j, hj, rfl, HV, hwr⟩ := hrel
    subst hwr
    by_cases hlt : j < 16
    · have hlt' : (j : Int) < 16 := by omega
      have hix := sizes_index j hlt
      by_cases he : sizesI.getD j 0 = n
      · have hb : (sizesI.getD j 0 == n) = true := by rw [he]; simp
        have HRES := Hid.mk (idx_at n j hlt HV.out he.symm)
        clear he
        generalize sizesI.getD j 0 = y at *
        go_wp2_with fail
        go_ret
        exact ⟨by rw [HRES.out]; rfl, rfl⟩
      · have hb : (sizesI.getD j 0 == n) = false := by simpa using he
        have HNX := Hid.mk (mem_take_succ n j hlt HV.out (fun h => he h.symm))
        clear he
        generalize sizesI.getD j 0 = y at *
        go_wp2_with fail
        go_roundw
        case rel => exact ⟨j + 1, by omega, by go_num, HNX, by first | rfl | trivial⟩
        case measure => simp [intOf]; omega
    · have e : j = 16 := by omega
      subst e
      have hres : idxI sizesI n = -1 := idxI_none sizesI n HV.out
      have HRES := Hid.mk hres
      clear hres
      go_wp2_with fail
      go_ret
      exact ⟨by rw [HRES.out]; rfl, rfl⟩
end Bw
end Go.Proofs.YthdhhmflfdbkhaaGreatDoor

/- What frame.Check answers of any frame. -/
namespace Go.Proofs.YthdhhmflfdbkhaaGreatDoor
open Go.ChangeShapes Go.WideShapes Go.ChangeAt Go.RowKit
namespace Bw
open Bm Cm

set_option linter.unusedVariables false
theorem idx_neg (n : Nat) : idxI sizesI (n : Int) < 0 ↔ n ∉ sizesL := by
  constructor
  · intro h hm
    have := (idx_sizes hm).1
    omega
  · intro h
    rw [idxI_none]
    · omega
    · intro hm
      apply h
      unfold sizesI at hm
      obtain ⟨m, h1, h2⟩ := List.mem_map.1 hm
      have : m = n := by omega
      rw [← this]; exact h1
theorem below_dr {w a : World} (h : Below w.heap.size w a) (n : Nat) : Below w.heap.size w (a.drewN n) := bl2 h ⟨rfl, rfl, rfl, Nat.le_refl _, fun _ _ => rfl⟩
def frameC (id : Int) (lo fa re : Bool) (sz : Int) (a : Option Addr) (len cap : Nat) : Obj := .cells #[.int .i64 id, .bool lo, .bool fa, .bool re, .int .i64 sz, .slice a len cap] 24
/-- block g holds a frame -/
structure FrAt (w : World) (g : Nat) (id : Int) (lo fa re : Bool) (sz : Int) (a : Option Addr) (len cap : Nat) : Prop where
  c0 : w.cell? ⟨g, 0, none⟩ = some (.int .i64 id)
  c1 : w.cell? ⟨g, 1, none⟩ = some (.bool lo)
  c2 : w.cell? ⟨g, 2, none⟩ = some (.bool fa)
  c3 : w.cell? ⟨g, 3, none⟩ = some (.bool re)
  c4 : w.cell? ⟨g, 4, none⟩ = some (.int .i64 sz)
  c5 : w.cell? ⟨g, 5, none⟩ = some (.slice a len cap)
theorem FrAt.kept {w w' : World} {g : Nat} {id : Int} {lo fa re : Bool} {sz : Int} {a : Option Addr} {len cap : Nat} (h : FrAt w g id lo fa re sz a len cap) (hb : Below w.heap.size w w') : FrAt w' g id lo fa re sz a len cap :=
  ⟨cell_kept hb h.c0, cell_kept hb h.c1, cell_kept hb h.c2, cell_kept hb h.c3, cell_kept hb h.c4, cell_kept hb h.c5⟩
theorem FrAt.box (w : World) (id : Int) (lo fa re : Bool) (sz : Int) (a : Option Addr) (len cap : Nat) : FrAt (w.alloc (frameC id lo fa re sz a len cap)) w.heap.size id lo fa re sz a len cap := by
  have h := fun j => cell_of_row (w.alloc (frameC id lo fa re sz a len cap)) w.heap.size j _ _ _ (heap_alloc_new w _)
  exact ⟨h 0, h 1, h 2, h 3, h 4, h 5⟩
theorem below_box (w : World) (id : Int) (lo fa re : Bool) (sz : Int) (a : Option Addr) (len cap : Nat) : Below w.heap.size w (w.alloc (frameC id lo fa re sz a len cap)) := (Below.refl _ _).alloc (Nat.le_refl _) _

set_option maxHeartbeats 4000000 in
theorem ck_low (id : Int) (lo fa re : Bool) (sz : Int) (a : Option Addr) (len cap : Nat) (w : World) (h0 : id < 0) :
    Calls Tryz.prog 62 #[frameV id lo fa re sz a len cap] w fun e w' => e = .returned (.int .i64 3) ∧ Below w.heap.size w w' := by
  have hd0 : decide (id < 0) = true := by simpa using h0
  have hB := below_box w id lo fa re sz a len cap
  unfold frameC at hB
  unfold frameV
  go_enter Tryz.func62, Tryz.ntmps62
  go_wp2_with fail
  go_quiet (fail)
  go_wp2_with fail
  go_ret
  exact ⟨rfl, below_dr hB _⟩
set_option maxHeartbeats 4000000 in
theorem ck_high (id : Int) (lo fa re : Bool) (sz : Int) (a : Option Addr) (len cap : Nat) (w : World) (h0 : 0 ≤ id) (h2 : topI lo < id) :
    Calls Tryz.prog 62 #[frameV id lo fa re sz a len cap] w fun e w' => e = .returned (.int .i64 3) ∧ Below w.heap.size w w' := by
  have hd0 : decide (id < 0) = false := by simp; omega
  have hB := below_box w id lo fa re sz a len cap
  unfold frameC at hB
  unfold frameV
  go_enter Tryz.func62, Tryz.ntmps62
  go_wp2_with fail
  go_quiet ((go_at_call 87; refine Calls.quiet_of_same (maxID_any lo _)))
  go_wp2_with fail
  go_ret
  exact ⟨rfl, below_dr hB _⟩
set_option maxHeartbeats 4000000 in
theorem ck_remF (id : Int) (lo : Bool) (sz : Int) (a : Option Addr) (len cap : Nat) (w : World) (hS : SizesAt w) (hlb : (len : Int) ≤ 9223372036854775807) (h0 : 0 ≤ id) (h2 : id ≤ topI lo)  :
    Calls Tryz.prog 62 #[frameV id lo true true sz a len cap] w fun e w' => e = .returned (.int .i64 4) ∧ Below w.heap.size w w' := by
  have hd0 : decide (id < 0) = false := by simp; omega
  have hB := below_box w id lo true true sz a len cap
  have hK := FrAt.box w id lo true true sz a len cap
  unfold frameC at hB hK
  unfold frameV
  go_enter Tryz.func62, Tryz.ntmps62
  go_wp2_with fail
  go_quiet ((go_at_call 87; refine Calls.quiet_of_same (maxID_any lo _)))
  obtain ⟨W1, hW1⟩ : ∃ W1, W1 = (w.alloc (.cells #[.int .i64 id, .bool lo, .bool true, .bool true, .int .i64 sz, .slice a len cap] 24)).drewN nq := ⟨_, rfl⟩
  have hB1 : Below w.heap.size w W1 := by rw [hW1]; exact below_dr hB nq
  have hK1 : FrAt W1 w.heap.size id lo true true sz a len cap := by rw [hW1]; exact hK.kept ⟨rfl, rfl, rfl, Nat.le_refl _, fun _ _ => rfl⟩
  rw [← hW1]
  obtain ⟨k0, k1, k2, k3, k4, k5⟩ := hK1
  clear hB hK hW1
  clear hS hlb
  go_wp2_with fail
  go_ret
  exact ⟨rfl, hB1⟩
set_option maxHeartbeats 4000000 in
theorem ck_remD (id : Int) (lo : Bool) (sz : Int) (a : Option Addr) (len cap : Nat) (w : World) (hS : SizesAt w) (hlb : (len : Int) ≤ 9223372036854775807) (h0 : 0 ≤ id) (h2 : id ≤ topI lo) (h3 : (0 : Int) < (len : Int)) :
    Calls Tryz.prog 62 #[frameV id lo false true sz a len cap] w fun e w' => e = .returned (.int .i64 4) ∧ Below w.heap.size w w' := by
  have hd0 : decide (id < 0) = false := by simp; omega
  have hB := below_box w id lo false true sz a len cap
  have hK := FrAt.box w id lo false true sz a len cap
  unfold frameC at hB hK
  unfold frameV
  go_enter Tryz.func62, Tryz.ntmps62
  go_wp2_with fail
  go_quiet ((go_at_call 87; refine Calls.quiet_of_same (maxID_any lo _)))
  obtain ⟨W1, hW1⟩ : ∃ W1, W1 = (w.alloc (.cells #[.int .i64 id, .bool lo, .bool false, .bool true, .int .i64 sz, .slice a len cap] 24)).drewN nq := ⟨_, rfl⟩
  have hB1 : Below w.heap.size w W1 := by rw [hW1]; exact below_dr hB nq
  have hK1 : FrAt W1 w.heap.size id lo false true sz a len cap := by rw [hW1]; exact hK.kept ⟨rfl, rfl, rfl, Nat.le_refl _, fun _ _ => rfl⟩
  rw [← hW1]
  obtain ⟨k0, k1, k2, k3, k4, k5⟩ := hK1
  clear hB hK hW1
  clear hS
  go_wp2_with fail
  go_ret
  exact ⟨rfl, hB1⟩
set_option maxHeartbeats 4000000 in
theorem ck_szL (id : Int) (lo fa : Bool) (sz : Int) (a : Option Addr) (len cap : Nat) (w : World) (hS : SizesAt w) (hlb : (len : Int) ≤ 9223372036854775807) (h0 : 0 ≤ id) (h2 : id ≤ topI lo) (h3 : sz < 0) :
    Calls Tryz.prog 62 #[frameV id lo fa false sz a len cap] w fun e w' => e = .returned (.int .i64 3) ∧ Below w.heap.size w w' := by
  have hd0 : decide (id < 0) = false := by simp; omega
  have hB := below_box w id lo fa false sz a len cap
  have hK := FrAt.box w id lo fa false sz a len cap
  unfold frameC at hB hK
  unfold frameV
  go_enter Tryz.func62, Tryz.ntmps62
  go_wp2_with fail
  go_quiet ((go_at_call 87; refine Calls.quiet_of_same (maxID_any lo _)))
  obtain ⟨W1, hW1⟩ : ∃ W1, W1 = (w.alloc (.cells #[.int .i64 id, .bool lo, .bool fa, .bool false, .int .i64 sz, .slice a len cap] 24)).drewN nq := ⟨_, rfl⟩
  have hB1 : Below w.heap.size w W1 := by rw [hW1]; exact below_dr hB nq
  have hK1 : FrAt W1 w.heap.size id lo fa false sz a len cap := by rw [hW1]; exact hK.kept ⟨rfl, rfl, rfl, Nat.le_refl _, fun _ _ => rfl⟩
  rw [← hW1]
  obtain ⟨k0, k1, k2, k3, k4, k5⟩ := hK1
  clear hB hK hW1
  clear hS hlb
  go_wp2_with fail
  go_ret
  exact ⟨rfl, hB1⟩
set_option maxHeartbeats 4000000 in
theorem ck_szH (id : Int) (lo fa : Bool) (sz : Int) (a : Option Addr) (len cap : Nat) (w : World) (hS : SizesAt w) (hlb : (len : Int) ≤ 9223372036854775807) (h0 : 0 ≤ id) (h2 : id ≤ topI lo) (h3 : 8 < sz) :
    Calls Tryz.prog 62 #[frameV id lo fa false sz a len cap] w fun e w' => e = .returned (.int .i64 3) ∧ Below w.heap.size w w' := by
  have hd0 : decide (id < 0) = false := by simp; omega
  have hB := below_box w id lo fa false sz a len cap
  have hK := FrAt.box w id lo fa false sz a len cap
  unfold frameC at hB hK
  unfold frameV
  go_enter Tryz.func62, Tryz.ntmps62
  go_wp2_with fail
  go_quiet ((go_at_call 87; refine Calls.quiet_of_same (maxID_any lo _)))
  obtain ⟨W1, hW1⟩ : ∃ W1, W1 = (w.alloc (.cells #[.int .i64 id, .bool lo, .bool fa, .bool false, .int .i64 sz, .slice a len cap] 24)).drewN nq := ⟨_, rfl⟩
  have hB1 : Below w.heap.size w W1 := by rw [hW1]; exact below_dr hB nq
  have hK1 : FrAt W1 w.heap.size id lo fa false sz a len cap := by rw [hW1]; exact hK.kept ⟨rfl, rfl, rfl, Nat.le_refl _, fun _ _ => rfl⟩
  rw [← hW1]
  obtain ⟨k0, k1, k2, k3, k4, k5⟩ := hK1
  clear hB hK hW1
  clear hS hlb
  go_wp2_with fail
  go_ret
  exact ⟨rfl, hB1⟩
set_option maxHeartbeats 4000000 in
theorem ck_szN (id : Int) (lo fa : Bool) (sz : Int) (a : Option Addr) (len cap : Nat) (w : World) (hS : SizesAt w) (hlb : (len : Int) ≤ 9223372036854775807) (h0 : 0 ≤ id) (h2 : id ≤ topI lo) (h3 : 0 < sz) (h4 : sz ≤ 8) :
    Calls Tryz.prog 62 #[frameV id lo fa false sz a len cap] w fun e w' => e = .returned (.int .i64 3) ∧ Below w.heap.size w w' := by
  have hd0 : decide (id < 0) = false := by simp; omega
  have hB := below_box w id lo fa false sz a len cap
  have hK := FrAt.box w id lo fa false sz a len cap
  unfold frameC at hB hK
  unfold frameV
  have h5 : (sz != 0) = true := by simp; omega
  go_enter Tryz.func62, Tryz.ntmps62
  go_wp2_with fail
  go_quiet ((go_at_call 87; refine Calls.quiet_of_same (maxID_any lo _)))
  obtain ⟨W1, hW1⟩ : ∃ W1, W1 = (w.alloc (.cells #[.int .i64 id, .bool lo, .bool fa, .bool false, .int .i64 sz, .slice a len cap] 24)).drewN nq := ⟨_, rfl⟩
  have hB1 : Below w.heap.size w W1 := by rw [hW1]; exact below_dr hB nq
  have hK1 : FrAt W1 w.heap.size id lo fa false sz a len cap := by rw [hW1]; exact hK.kept ⟨rfl, rfl, rfl, Nat.le_refl _, fun _ _ => rfl⟩
  rw [← hW1]
  obtain ⟨k0, k1, k2, k3, k4, k5⟩ := hK1
  clear hB hK hW1
  clear hS hlb
  go_wp2_with fail
  go_ret
  exact ⟨rfl, hB1⟩
set_option maxHeartbeats 4000000 in
theorem ck_rszL (id : Int) (lo : Bool) (sz : Int) (a : Option Addr) (len cap : Nat) (w : World) (hS : SizesAt w) (hlb : (len : Int) ≤ 9223372036854775807) (h0 : 0 ≤ id) (h2 : id ≤ topI lo) (h3 : sz < 0) (hl : (len : Int) ≤ 0) :
    Calls Tryz.prog 62 #[frameV id lo false true sz a len cap] w fun e w' => e = .returned (.int .i64 3) ∧ Below w.heap.size w w' := by
  have hd0 : decide (id < 0) = false := by simp; omega
  have hB := below_box w id lo false true sz a len cap
  have hK := FrAt.box w id lo false true sz a len cap
  unfold frameC at hB hK
  unfold frameV
  go_enter Tryz.func62, Tryz.ntmps62
  go_wp2_with fail
  go_quiet ((go_at_call 87; refine Calls.quiet_of_same (maxID_any lo _)))
  obtain ⟨W1, hW1⟩ : ∃ W1, W1 = (w.alloc (.cells #[.int .i64 id, .bool lo, .bool false, .bool true, .int .i64 sz, .slice a len cap] 24)).drewN nq := ⟨_, rfl⟩
  have hB1 : Below w.heap.size w W1 := by rw [hW1]; exact below_dr hB nq
  have hK1 : FrAt W1 w.heap.size id lo false true sz a len cap := by rw [hW1]; exact hK.kept ⟨rfl, rfl, rfl, Nat.le_refl _, fun _ _ => rfl⟩
  rw [← hW1]
  obtain ⟨k0, k1, k2, k3, k4, k5⟩ := hK1
  clear hB hK hW1
  clear hS
  go_wp2_with fail
  go_ret
  exact ⟨rfl, hB1⟩
set_option maxHeartbeats 4000000 in
theorem ck_rszH (id : Int) (lo : Bool) (sz : Int) (a : Option Addr) (len cap : Nat) (w : World) (hS : SizesAt w) (hlb : (len : Int) ≤ 9223372036854775807) (h0 : 0 ≤ id) (h2 : id ≤ topI lo) (h3 : 8 < sz) (hl : (len : Int) ≤ 0) :
    Calls Tryz.prog 62 #[frameV id lo false true sz a len cap] w fun e w' => e = .returned (.int .i64 3) ∧ Below w.heap.size w w' := by
  have hd0 : decide (id < 0) = false := by simp; omega
  have hB := below_box w id lo false true sz a len cap
  have hK := FrAt.box w id lo false true sz a len cap
  unfold frameC at hB hK
  unfold frameV
  go_enter Tryz.func62, Tryz.ntmps62
  go_wp2_with fail
  go_quiet ((go_at_call 87; refine Calls.quiet_of_same (maxID_any lo _)))
  obtain ⟨W1, hW1⟩ : ∃ W1, W1 = (w.alloc (.cells #[.int .i64 id, .bool lo, .bool false, .bool true, .int .i64 sz, .slice a len cap] 24)).drewN nq := ⟨_, rfl⟩
  have hB1 : Below w.heap.size w W1 := by rw [hW1]; exact below_dr hB nq
  have hK1 : FrAt W1 w.heap.size id lo false true sz a len cap := by rw [hW1]; exact hK.kept ⟨rfl, rfl, rfl, Nat.le_refl _, fun _ _ => rfl⟩
  rw [← hW1]
  obtain ⟨k0, k1, k2, k3, k4, k5⟩ := hK1
  clear hB hK hW1
  clear hS
  go_wp2_with fail
  go_ret
  exact ⟨rfl, hB1⟩
set_option maxHeartbeats 4000000 in
theorem ck_many (id : Int) (lo fa : Bool) (a : Option Addr) (len cap : Nat) (w : World) (hS : SizesAt w) (hlb : (len : Int) ≤ 9223372036854775807) (h0 : 0 ≤ id) (h2 : id ≤ topI lo) (h3 : topDI fa < (len : Int)) :
    Calls Tryz.prog 62 #[frameV id lo fa false 0 a len cap] w fun e w' => e = .returned (.int .i64 2) ∧ Below w.heap.size w w' := by
  have hd0 : decide (id < 0) = false := by simp; omega
  have hB := below_box w id lo fa false 0 a len cap
  have hK := FrAt.box w id lo fa false 0 a len cap
  unfold frameC at hB hK
  unfold frameV
  go_enter Tryz.func62, Tryz.ntmps62
  go_wp2_with fail
  go_quiet ((go_at_call 87; refine Calls.quiet_of_same (maxID_any lo _)))
  obtain ⟨W1, hW1⟩ : ∃ W1, W1 = (w.alloc (.cells #[.int .i64 id, .bool lo, .bool fa, .bool false, .int .i64 0, .slice a len cap] 24)).drewN nq := ⟨_, rfl⟩
  have hB1 : Below w.heap.size w W1 := by rw [hW1]; exact below_dr hB nq
  have hK1 : FrAt W1 w.heap.size id lo fa false 0 a len cap := by rw [hW1]; exact hK.kept ⟨rfl, rfl, rfl, Nat.le_refl _, fun _ _ => rfl⟩
  rw [← hW1]
  obtain ⟨k0, k1, k2, k3, k4, k5⟩ := hK1
  clear hB hK hW1
  clear hS
  go_wp2_with fail
  go_quiet ((go_at_call 52; refine Calls.quiet_of_same (maxData_any fa _)))
  obtain ⟨W2, hW2⟩ : ∃ W2, W2 = W1.drewN nq := ⟨_, rfl⟩
  have hB2 : Below w.heap.size w W2 := by rw [hW2]; exact below_dr hB1 nq
  have j5 : W2.cell? ⟨w.heap.size, 5, none⟩ = some (.slice a len cap) := by rw [hW2]; exact k5
  rw [← hW2]
  clear hB1 hW2 k0 k1 k2 k3 k4 k5
  go_wp2_with fail
  go_ret
  exact ⟨rfl, hB2⟩
set_option maxHeartbeats 4000000 in
theorem ck_form (id : Int) (lo fa : Bool) (a : Option Addr) (len cap : Nat) (w : World) (hS : SizesAt w) (hlb : (len : Int) ≤ 9223372036854775807) (h0 : 0 ≤ id) (h2 : id ≤ topI lo) (h3 : (len : Int) ≤ topDI fa) (hq : idxI sizesI (len : Int) < 0) :
    Calls Tryz.prog 62 #[frameV id lo fa false 0 a len cap] w fun e w' => e = .returned (.int .i64 4) ∧ Below w.heap.size w w' := by
  have hd0 : decide (id < 0) = false := by simp; omega
  have hB := below_box w id lo fa false 0 a len cap
  have hK := FrAt.box w id lo fa false 0 a len cap
  unfold frameC at hB hK
  unfold frameV
  go_enter Tryz.func62, Tryz.ntmps62
  go_wp2_with fail
  go_quiet ((go_at_call 87; refine Calls.quiet_of_same (maxID_any lo _)))
  obtain ⟨W1, hW1⟩ : ∃ W1, W1 = (w.alloc (.cells #[.int .i64 id, .bool lo, .bool fa, .bool false, .int .i64 0, .slice a len cap] 24)).drewN nq := ⟨_, rfl⟩
  have hB1 : Below w.heap.size w W1 := by rw [hW1]; exact below_dr hB nq
  have hK1 : FrAt W1 w.heap.size id lo fa false 0 a len cap := by rw [hW1]; exact hK.kept ⟨rfl, rfl, rfl, Nat.le_refl _, fun _ _ => rfl⟩
  rw [← hW1]
  obtain ⟨k0, k1, k2, k3, k4, k5⟩ := hK1
  clear hB hK hW1
  go_wp2_with fail
  go_quiet ((go_at_call 52; refine Calls.quiet_of_same (maxData_any fa _)))
  obtain ⟨W2, hW2⟩ : ∃ W2, W2 = W1.drewN nq := ⟨_, rfl⟩
  have hB2 : Below w.heap.size w W2 := by rw [hW2]; exact below_dr hB1 nq
  have j5 : W2.cell? ⟨w.heap.size, 5, none⟩ = some (.slice a len cap) := by rw [hW2]; exact k5
  rw [← hW2]
  clear hB1 hW2 k0 k1 k2 k3 k4 k5
  have HS := Hid.mk (hS.kept hB2)
  go_wp2_with fail
  refine (codeOf_any (len : Int) W2 HS.out).mono ?_
  rintro e w1 ⟨rfl, hw⟩
  subst hw
  go_wp2_with fail
  go_ret
  exact ⟨rfl, hB2⟩
set_option maxHeartbeats 4000000 in
theorem ck_ok (id : Int) (lo fa : Bool) (a : Option Addr) (len cap : Nat) (w : World) (hS : SizesAt w) (hlb : (len : Int) ≤ 9223372036854775807) (h0 : 0 ≤ id) (h2 : id ≤ topI lo) (h3 : (len : Int) ≤ topDI fa) (hq : 0 ≤ idxI sizesI (len : Int)) :
    Calls Tryz.prog 62 #[frameV id lo fa false 0 a len cap] w fun e w' => e = .returned (.int .i64 0) ∧ Below w.heap.size w w' := by
  have hd0 : decide (id < 0) = false := by simp; omega
  have hB := below_box w id lo fa false 0 a len cap
  have hK := FrAt.box w id lo fa false 0 a len cap
  unfold frameC at hB hK
  unfold frameV
  go_enter Tryz.func62, Tryz.ntmps62
  go_wp2_with fail
  go_quiet ((go_at_call 87; refine Calls.quiet_of_same (maxID_any lo _)))
  obtain ⟨W1, hW1⟩ : ∃ W1, W1 = (w.alloc (.cells #[.int .i64 id, .bool lo, .bool fa, .bool false, .int .i64 0, .slice a len cap] 24)).drewN nq := ⟨_, rfl⟩
  have hB1 : Below w.heap.size w W1 := by rw [hW1]; exact below_dr hB nq
  have hK1 : FrAt W1 w.heap.size id lo fa false 0 a len cap := by rw [hW1]; exact hK.kept ⟨rfl, rfl, rfl, Nat.le_refl _, fun _ _ => rfl⟩
  rw [← hW1]
  obtain ⟨k0, k1, k2, k3, k4, k5⟩ := hK1
  clear hB hK hW1
  go_wp2_with fail
  go_quiet ((go_at_call 52; refine Calls.quiet_of_same (maxData_any fa _)))
  obtain ⟨W2, hW2⟩ : ∃ W2, W2 = W1.drewN nq := ⟨_, rfl⟩
  have hB2 : Below w.heap.size w W2 := by rw [hW2]; exact below_dr hB1 nq
  have j5 : W2.cell? ⟨w.heap.size, 5, none⟩ = some (.slice a len cap) := by rw [hW2]; exact k5
  rw [← hW2]
  clear hB1 hW2 k0 k1 k2 k3 k4 k5
  have HS := Hid.mk (hS.kept hB2)
  go_wp2_with fail
  refine (codeOf_any (len : Int) W2 HS.out).mono ?_
  rintro e w1 ⟨rfl, hw⟩
  subst hw
  go_wp2_with fail
  go_ret
  exact ⟨rfl, hB2⟩
set_option maxHeartbeats 4000000 in
theorem ck_rok0 (id : Int) (lo : Bool) (a : Option Addr) (len cap : Nat) (w : World) (hS : SizesAt w) (hlb : (len : Int) ≤ 9223372036854775807) (h0 : 0 ≤ id) (h2 : id ≤ topI lo) (hl : (len : Int) ≤ 0) (hq : 0 ≤ idxI sizesI (len : Int)) :
    Calls Tryz.prog 62 #[frameV id lo false true 0 a len cap] w fun e w' => e = .returned (.int .i64 0) ∧ Below w.heap.size w w' := by
  have hd0 : decide (id < 0) = false := by simp; omega
  have hB := below_box w id lo false true 0 a len cap
  have hK := FrAt.box w id lo false true 0 a len cap
  unfold frameC at hB hK
  unfold frameV
  go_enter Tryz.func62, Tryz.ntmps62
  go_wp2_with fail
  go_quiet ((go_at_call 87; refine Calls.quiet_of_same (maxID_any lo _)))
  obtain ⟨W1, hW1⟩ : ∃ W1, W1 = (w.alloc (.cells #[.int .i64 id, .bool lo, .bool false, .bool true, .int .i64 0, .slice a len cap] 24)).drewN nq := ⟨_, rfl⟩
  have hB1 : Below w.heap.size w W1 := by rw [hW1]; exact below_dr hB nq
  have hK1 : FrAt W1 w.heap.size id lo false true 0 a len cap := by rw [hW1]; exact hK.kept ⟨rfl, rfl, rfl, Nat.le_refl _, fun _ _ => rfl⟩
  rw [← hW1]
  obtain ⟨k0, k1, k2, k3, k4, k5⟩ := hK1
  clear hB hK hW1
  have h5 : (len : Int) ≤ topDI false := by simp only [topDI]; simp; omega
  go_wp2_with fail
  go_quiet ((go_at_call 52; refine Calls.quiet_of_same (maxData_any false _)))
  obtain ⟨W2, hW2⟩ : ∃ W2, W2 = W1.drewN nq := ⟨_, rfl⟩
  have hB2 : Below w.heap.size w W2 := by rw [hW2]; exact below_dr hB1 nq
  have j5 : W2.cell? ⟨w.heap.size, 5, none⟩ = some (.slice a len cap) := by rw [hW2]; exact k5
  rw [← hW2]
  clear hB1 hW2 k0 k1 k2 k3 k4 k5
  have HS := Hid.mk (hS.kept hB2)
  go_wp2_with fail
  refine (codeOf_any (len : Int) W2 HS.out).mono ?_
  rintro e w1 ⟨rfl, hw⟩
  subst hw
  go_wp2_with fail
  go_ret
  exact ⟨rfl, hB2⟩
set_option maxHeartbeats 4000000 in
theorem ck_rok1 (id : Int) (lo : Bool) (sz : Int) (a : Option Addr) (len cap : Nat) (w : World) (hS : SizesAt w) (hlb : (len : Int) ≤ 9223372036854775807) (h0 : 0 ≤ id) (h2 : id ≤ topI lo) (h3 : 0 < sz) (h4 : sz ≤ 8) (hl : (len : Int) ≤ 0) (hq : 0 ≤ idxI sizesI (len : Int)) :
    Calls Tryz.prog 62 #[frameV id lo false true sz a len cap] w fun e w' => e = .returned (.int .i64 0) ∧ Below w.heap.size w w' := by
  have hd0 : decide (id < 0) = false := by simp; omega
  have hB := below_box w id lo false true sz a len cap
  have hK := FrAt.box w id lo false true sz a len cap
  unfold frameC at hB hK
  unfold frameV
  have h6 : (sz != 0) = true := by simp; omega
  go_enter Tryz.func62, Tryz.ntmps62
  go_wp2_with fail
  go_quiet ((go_at_call 87; refine Calls.quiet_of_same (maxID_any lo _)))
  obtain ⟨W1, hW1⟩ : ∃ W1, W1 = (w.alloc (.cells #[.int .i64 id, .bool lo, .bool false, .bool true, .int .i64 sz, .slice a len cap] 24)).drewN nq := ⟨_, rfl⟩
  have hB1 : Below w.heap.size w W1 := by rw [hW1]; exact below_dr hB nq
  have hK1 : FrAt W1 w.heap.size id lo false true sz a len cap := by rw [hW1]; exact hK.kept ⟨rfl, rfl, rfl, Nat.le_refl _, fun _ _ => rfl⟩
  rw [← hW1]
  obtain ⟨k0, k1, k2, k3, k4, k5⟩ := hK1
  clear hB hK hW1
  have h5 : (len : Int) ≤ topDI false := by simp only [topDI]; simp; omega
  go_wp2_with fail
  go_quiet ((go_at_call 52; refine Calls.quiet_of_same (maxData_any false _)))
  obtain ⟨W2, hW2⟩ : ∃ W2, W2 = W1.drewN nq := ⟨_, rfl⟩
  have hB2 : Below w.heap.size w W2 := by rw [hW2]; exact below_dr hB1 nq
  have j5 : W2.cell? ⟨w.heap.size, 5, none⟩ = some (.slice a len cap) := by rw [hW2]; exact k5
  rw [← hW2]
  clear hB1 hW2 k0 k1 k2 k3 k4 k5
  have HS := Hid.mk (hS.kept hB2)
  go_wp2_with fail
  refine (codeOf_any (len : Int) W2 HS.out).mono ?_
  rintro e w1 ⟨rfl, hw⟩
  subst hw
  go_wp2_with fail
  go_ret
  exact ⟨rfl, hB2⟩
theorem frCheck_any (id : Int) (lo fa re : Bool) (sz : Int) (a : Option Addr) (len cap : Nat) (w : World) (hS : SizesAt w) (hl : len ≤ maxLen) :
    Calls Tryz.prog 62 #[frameV id lo fa re sz a len cap] w fun e w' => e = .returned (.int .i64 (frEn id lo fa re sz len)) ∧ Below w.heap.size w w' := by
  have hneg := idx_neg len
  have hlb : (len : Int) ≤ 9223372036854775807 := by unfold maxLen at hl; omega
  unfold frEn
  by_cases h1 : id < 0 ∨ topI lo < id
  · rw [if_pos h1]
    by_cases h0 : id < 0
    · exact ck_low id lo fa re sz a len cap w h0
    · exact ck_high id lo fa re sz a len cap w (by omega) (by omega)
  · rw [if_neg h1]
    have h0 : 0 ≤ id := by omega
    have h2 : id ≤ topI lo := by omega
    cases re
    · rw [if_neg (by simp)]
      by_cases h5 : sz < 0 ∨ 8 < sz ∨ (0 < sz ∧ false = false)
      · rw [if_pos h5]
        by_cases h6 : sz < 0
        · exact ck_szL id lo fa sz a len cap w hS hlb h0 h2 h6
        · by_cases h7 : 8 < sz
          · exact ck_szH id lo fa sz a len cap w hS hlb h0 h2 h7
          · exact ck_szN id lo fa sz a len cap w hS hlb h0 h2 (by simp at h5; omega) (by omega)
      · rw [if_neg h5]
        obtain rfl : sz = 0 := by simp at h5; omega
        by_cases h9 : 64 < len ∨ (8 < len ∧ fa = false)
        · rw [if_pos h9]
          exact ck_many id lo fa a len cap w hS hlb h0 h2 (by cases fa <;> simp [topDI] at h9 ⊢ <;> omega)
        · rw [if_neg h9]
          have h10 : (len : Int) ≤ topDI fa := by cases fa <;> simp [topDI] at h9 ⊢ <;> omega
          by_cases hm : len ∈ sizesL
          · rw [if_pos hm]
            exact ck_ok id lo fa a len cap w hS hlb h0 h2 h10 (by rcases Int.lt_or_le (idxI sizesI (len : Int)) 0 with h | h; exact absurd hm (hneg.1 h); exact h)
          · rw [if_neg hm]
            exact ck_form id lo fa a len cap w hS hlb h0 h2 h10 (hneg.2 hm)
    · cases fa
      · by_cases hlen : len = 0
        · subst hlen
          rw [if_neg (by simp)]
          by_cases h5 : sz < 0 ∨ 8 < sz ∨ (0 < sz ∧ true = false)
          · rw [if_pos h5]
            by_cases h6 : sz < 0
            · exact ck_rszL id lo sz a 0 cap w hS hlb h0 h2 h6 (by simp)
            · exact ck_rszH id lo sz a 0 cap w hS hlb h0 h2 (by simp at h5; omega) (by simp)
          · rw [if_neg h5, if_neg (by simp), if_pos (by decide)]
            by_cases hz : sz = 0
            · subst hz
              exact ck_rok0 id lo a 0 cap w hS hlb h0 h2 (by simp) (by decide)
            · exact ck_rok1 id lo sz a 0 cap w hS hlb h0 h2 (by omega) (by omega) (by simp) (by decide)
        · rw [if_pos ⟨rfl, .inr hlen⟩]
          exact ck_remD id lo sz a len cap w hS hlb h0 h2 (by omega)
      · rw [if_pos ⟨rfl, .inl rfl⟩]
        exact ck_remF id lo sz a len cap w hS hlb h0 h2
end Bw
end Go.Proofs.YthdhhmflfdbkhaaGreatDoor

/- What bits.value and bits.Number answer of any text: the number that a row of at most 62 bits tells, and else which error. -/
namespace Go.Proofs.YthdhhmflfdbkhaaGreatDoor
open Go.ChangeShapes Go.WideShapes Go.ChangeAt Go.RowKit
namespace Bw
open Bm

theorem or_one (n : Nat) (d : Int) (hn : n < 2 ^ 61) (hd : d = 48 ∨ d = 49) : bits .or .i64 (wrap64 ((n : Int) * 2)) (d - 48) = 2 * (n : Int) + (d - 48) := by
  have e : wrap64 ((n : Int) * 2) = (n : Int) * 2 := by unfold wrap64; omega
  rw [e, bits_join .i64 63 (by decide) (fun n h0 h1 => by rw [IntKind.wrap_i64]; omega) 1 _ _ (by omega) (by omega) (by omega) (by omega) (by omega) (by omega)]
  omega

set_option maxHeartbeats 1000000 in
theorem value_any (s : ByteArray) (w : World) (hm : s.size ≤ 62) (hrow : rowB s.data.toList = true) :
    Calls Tryz.prog 81 #[.string s] w fun e w' => e = .returned (.int .i64 (val s.data.toList)) ∧ Below w.heap.size w w' := by
  have HR : Hid (rowB s.data.toList = true) := hrow
  clear hrow
  go_enter Tryz.func81, Tryz.ntmps81
  go_wp2
  go_loopw [3] (fun n w' => ∃ pos : Nat, w' = w.iter s pos ∧ pos ≤ s.size ∧ n = .int .i64 (val (s.data.toList.take pos))) (fun _ w' => s.size - w'.iterPos w.heap.size)
  case atStart => exact ⟨0, rfl, Nat.zero_le _, rfl⟩
  case round =>
    obtain ⟨pos, rfl, hpos, rfl⟩ := hrel
    by_cases hp : pos < s.size
    · have hb := rowB_at HR.out pos hp
      have ha : (s[pos]'hp).toNat < 128 := by rcases (bit_iff _).1 hb with h | h <;> omega
      have hb' := (bit_iff _).1 hb
      have hnx : ∀ ty, (Instr.next (.pointer (some ⟨w.heap.size, 0, none⟩)) true ty).run Tryz.prog (w.iter s pos) = _ := fun ty => run_next_ascii w s pos ty hp ha
      have HN : Hid (∀ d : Int, d = 48 ∨ d = 49 → d = s[pos].toNat → bits .or .i64 (wrap64 ((val (s.data.toList.take pos) : Int) * 2)) (d - 48) = (val (s.data.toList.take (pos + 1)) : Int)) := by
        intro d hd hd'
        have hv := val_lt _ (rowB_take HR.out pos)
        have hl : (s.data.toList.take pos).length ≤ 61 := by rw [List.length_take]; omega
        have h2 : (2 : Nat) ^ (s.data.toList.take pos).length ≤ 2 ^ 61 := Nat.pow_le_pow_right (by omega) hl
        rw [take_snoc s pos hp, val_snoc, or_one _ _ (by omega) hd, hd', (bit_dig hb).2.symm]
        omega
      clear hb
      go_wp2
      go_roundw
      case rel => exact ⟨pos + 1, rfl, by omega, int_eq (HN.out _ hb' rfl)⟩
      case measure => simp; omega
    · have hnx : ∀ ty, (Instr.next (.pointer (some ⟨w.heap.size, 0, none⟩)) true ty).run Tryz.prog (w.iter s pos) = _ := fun ty => run_next_end w s pos ty hp
      go_wp2
      go_ret
      exact ⟨by rw [List.take_of_length_le (by simp; omega)]; rfl, below_iter _ _ _⟩

def numE (l : List UInt8) : Int := if checkE l = 0 then (if 62 < l.length then 2 else 0) else checkE l
def numV (l : List UInt8) : Int := if numE l = 0 then val l else 0

theorem number_shape (s : ByteArray) : (checkE s.data.toList = 0 ∧ s.size ≤ 62 ∧ rowB s.data.toList = true ∧ numE s.data.toList = 0 ∧ numV s.data.toList = val s.data.toList) ∨
    (checkE s.data.toList = 0 ∧ 62 < s.size ∧ numE s.data.toList = 2 ∧ numV s.data.toList = 0) ∨
    (checkE s.data.toList ≠ 0 ∧ numE s.data.toList = checkE s.data.toList ∧ numV s.data.toList = 0) := by
  by_cases h : checkE s.data.toList = 0
  · have hr : rowB s.data.toList = true := by
      unfold checkE at h
      by_cases h1 : 1000 < s.data.toList.length
      · rw [if_pos h1] at h; omega
      · rw [if_neg h1] at h
        cases e : rowB s.data.toList with
        | true => rfl
        | false => rw [e] at h; simp at h
    by_cases h2 : 62 < s.size
    · have e : numE s.data.toList = 2 := by unfold numE; rw [if_pos h, if_pos (by simpa using h2)]
      exact Or.inr (Or.inl ⟨h, h2, e, by unfold numV; rw [e]; rfl⟩)
    · have e : numE s.data.toList = 0 := by unfold numE; rw [if_pos h, if_neg (by simpa using h2)]
      exact Or.inl ⟨h, by omega, hr, e, by unfold numV; rw [e]; rfl⟩
  · have e : numE s.data.toList = checkE s.data.toList := by unfold numE; rw [if_neg h]
    exact Or.inr (Or.inr ⟨h, e, by unfold numV; rw [e, if_neg h]⟩)

set_option maxHeartbeats 1000000 in
theorem number_any (s : ByteArray) (w : World) (hs : s.size ≤ maxLen) :
    Calls Tryz.prog 79 #[.string s] w fun e w' => e = .returned (.tuple #[.int .i64 (numV s.data.toList), .int .i64 (numE s.data.toList)]) ∧ Below w.heap.size w w' := by
  rcases number_shape s with ⟨hc, h62, hrow, hE, hV⟩ | ⟨hc, h62, hE, hV⟩ | ⟨hc, hE, hV⟩
  · rw [hE, hV]
    have HS : Hid (s.size ≤ maxLen) := hs
    have HC : Hid (checkE s.data.toList = 0) := hc
    have HR : Hid (rowB s.data.toList = true) := hrow
    clear hE hV hs hc hrow
    go_enter Tryz.func79, Tryz.ntmps79
    go_wp2_with fail
    refine (check_any s w HS.out).mono ?_
    rw [HC.out]
    rintro e w1 ⟨rfl, hb1⟩
    go_wp2_with fail
    refine (value_any s w1 h62 HR.out).mono ?_
    rintro e w2 ⟨rfl, hb2⟩
    go_wp2_with fail
    go_ret2
    exact ⟨rfl, hb1.trans (hb2.mono hb1.size)⟩
  · rw [hE, hV]
    have HS : Hid (s.size ≤ maxLen) := hs
    have HC : Hid (checkE s.data.toList = 0) := hc
    unfold maxLen at hs
    clear hE hV hc
    go_enter Tryz.func79, Tryz.ntmps79
    go_wp2_with fail
    refine (check_any s w HS.out).mono ?_
    rw [HC.out]
    rintro e w1 ⟨rfl, hb1⟩
    go_wp2_with fail
    go_ret2
    exact ⟨rfl, hb1⟩
  · rw [hE, hV]
    have HS : Hid (s.size ≤ maxLen) := hs
    have hc' : (checkE s.data.toList == 0) = false := by simpa using hc
    clear hE hV hs hc
    go_enter Tryz.func79, Tryz.ntmps79
    go_wp2_with fail
    refine (check_any s w HS.out).mono ?_
    rintro e w1 ⟨rfl, hb1⟩
    go_wp2_with fail
    go_ret2
    exact ⟨rfl, hb1⟩
end Bw
end Go.Proofs.YthdhhmflfdbkhaaGreatDoor

/- What bits.appendBits and bits.Row answer: the bits of a number behind a row that the call owns, and the row of any number in any size, errors too. -/
namespace Go.Proofs.YthdhhmflfdbkhaaGreatDoor
open Go.ChangeShapes Go.WideShapes Go.ChangeAt Go.RowKit
namespace Bw
open Bm

set_option maxHeartbeats 2000000 in
theorem appendBits_any (v : Value) (k : Nat) (l : List UInt8) (n size : Nat) (w : World) (base : Nat) (hb : base ≤ w.heap.size) (hl : l.length = k) (hk : k ≤ 100000)
    (hn : n < 2 ^ 63) (hsize : size ≤ 62) (hown : w.ownsRow base 5 1 v k (cellsOf l)) :
    Calls Tryz.prog 112 #[v, .int .i64 n, .int .i64 size] w fun e w' => ∃ v', e = .returned v' ∧ w'.ownsRow base 5 1 v' (k + size) (cellsOf (l ++ bitsHead n size size)) ∧ Below base w w' := by
  obtain ⟨i0, hi, hz0, hz1, hz2⟩ := info_parts info_u8
  go_enter Tryz.func112, Tryz.ntmps112
  go_wp2
  go_loopw [0, 9] (fun r i wr => ∃ j : Nat, j ≤ size ∧ i = .int .i64 j ∧ wr.ownsRow base 5 1 r (k + j) (cellsOf (l ++ bitsHead n size j)) ∧ Below base w wr) (fun _ i _ => size - (intOf i).toNat)
  case atStart => exact ⟨0, Nat.zero_le _, rfl, by simpa [bitsHead] using hown, Below.refl _ _⟩
  case round =>
    obtain ⟨j, hj, rfl, hownr, hbel⟩ := hrel
    by_cases hlt : j < size
    · have HV : Hid (Value.int .u8 ((48 + bits .and .i64 ((n : Int) / 2 ^ (size - 1 - j)) 1) % 256) = Value.int .u8 (bitAt n (size - 1 - j)).toNat) := bit_cell n (size - 1 - j) hn
      have hlen : base ≤ wr.heap.size := Nat.le_trans hb hbel.size
      go_wp2_with (at_builtin; refine wpList_append_own _ rfl (.tmp 12) (.tmp 22) 22 rfl base 5 i0 (.int .u8 0) 1 1 Tryz.underlying22 hi hz0 hz1 hz2 rfl (by decide) _ _ _ rfl (hownr.alloc _) ⟨wr.heap.size, 0, none⟩ 1 1 [Value.int .u8 ((48 + bits .and .i64 ((n : Int) / 2 ^ (size - 1 - j)) 1) % 256)] rfl rfl (by intro q u hq; match q, hq with | 0, hq => (simp at hq; subst hq; simp [Addr.add])) (by intro u hu; simp at hu; subst hu; rfl) (by unfold maxLen; omega) (by omega) (by simp; omega) ?_; intro v' w1 hown' hgrow _)
      have hbel1 : Below base w w1 := Below.grown (hbel.alloc hlen _) hgrow (by simp; omega) (fun q hq => (hownr.lt q hq).1)
      have hown2 : w1.ownsRow base 5 1 v' (k + (j + 1)) (cellsOf (l ++ bitsHead n size (j + 1))) := by
        rw [bitsHead_succ, ← List.append_assoc, cellsOf_append _ [_]]
        have e : cellsOf [bitAt n (size - 1 - j)] = [Value.int .u8 ((48 + bits .and .i64 ((n : Int) / 2 ^ (size - 1 - j)) 1) % 256)] := by rw [HV.out]; rfl
        rw [e]; exact hown'
      clear hown' hgrow hownr
      go_wp2
      go_roundw
      case rel => exact ⟨j + 1, by omega, by go_num, hown2, hbel1⟩
      case measure => simp [intOf]; omega
    · have e : j = size := by omega
      subst e
      go_wp2_with fail
      go_ret
      exact ⟨_, rfl, hownr, hbel⟩

set_option maxHeartbeats 1000000 in
theorem row_many (n size : Int) (w : World) (h : size < 0 ∨ 62 < size) :
    Calls Tryz.prog 89 #[.int .i64 n, .int .i64 size] w fun e w' => e = .returned (.tuple #[.string ⟨#[]⟩, .int .i64 2]) ∧ w' = w := by
  by_cases h1 : size < 0
  · go_enter Tryz.func89, Tryz.ntmps89
    go_wp2_with fail
    go_ret2
    exact ⟨rfl, rfl⟩
  · have h2 : 62 < size := by omega
    clear h
    have hd : decide (size < 0) = false := by simpa using h1
    go_enter Tryz.func89, Tryz.ntmps89
    go_wp2_with fail
    go_ret2
    exact ⟨rfl, rfl⟩

set_option maxHeartbeats 1000000 in
theorem row_range (n size : Int) (w : World) (h0 : 0 ≤ size) (h1 : size ≤ 62) (h : n < 0 ∨ 2 ^ size.toNat ≤ n) :
    Calls Tryz.prog 89 #[.int .i64 n, .int .i64 size] w fun e w' => e = .returned (.tuple #[.string ⟨#[]⟩, .int .i64 3]) ∧ w' = w := by
  by_cases hn : n < 0
  · clear h
    go_enter Tryz.func89, Tryz.ntmps89
    go_wp2_with fail
    go_ret2
    exact ⟨rfl, rfl⟩
  · have h2 : 2 ^ size.toNat ≤ n := by omega
    have hq : (n / 2 ^ size.toNat == 0) = false := by
      have hp : (0 : Int) < 2 ^ size.toNat := Int.pow_pos (by omega)
      have : 1 ≤ n / 2 ^ size.toNat := (Int.le_ediv_iff_mul_le hp).2 (by omega)
      simp; omega
    clear h h2
    go_enter Tryz.func89, Tryz.ntmps89
    go_wp2_with fail
    go_ret2
    exact ⟨rfl, rfl⟩

set_option maxHeartbeats 1000000 in
theorem row_ok (n size : Nat) (w : World) (h1 : size ≤ 62) (h : n < 2 ^ size) :
    Calls Tryz.prog 89 #[.int .i64 n, .int .i64 size] w fun e w' => e = .returned (.tuple #[.string ⟨(bitsHead n size size).toArray⟩, .int .i64 0]) ∧ Below w.heap.size w w' := by
  have hq : (n : Int) / 2 ^ size = 0 := by
    have : n / 2 ^ size = 0 := Nat.div_eq_of_lt h
    have e : (n : Int) / 2 ^ size = ((n / 2 ^ size : Nat) : Int) := by simp
    rw [e, this]; rfl
  have hn : n < 2 ^ 63 := Nat.lt_of_lt_of_le h (Nat.pow_le_pow_right (by omega) (by omega))
  have HN : Hid (n < 2 ^ 63) := hn
  clear h hn
  go_enter Tryz.func89, Tryz.ntmps89
  go_wp2_with fail
  refine (appendBits_any (.slice none 0 0) 0 [] n size w w.heap.size (Nat.le_refl _) rfl (by omega) HN.out h1 (World.ownsRow_nil _ _ _ _)).mono ?_
  rintro e w1 ⟨v', rfl, hown, hbel⟩
  have hcv := convert_own hown
  clear hown
  go_wp2_with fail
  go_ret2
  exact ⟨rfl, hbel⟩
end Bw
end Go.Proofs.YthdhhmflfdbkhaaGreatDoor

/- What frame.name and form answer. -/
namespace Go.Proofs.YthdhhmflfdbkhaaGreatDoor
open Go.ChangeShapes Go.WideShapes Go.ChangeAt Go.RowKit
namespace Bw
open Bm Cm

theorem head_take (n : Nat) : bitsHead (n / 262144) 11 11 = (bitsHead n 29 29).take 11 := by
  unfold bitsHead
  rw [← List.map_take, List.take_range]
  apply List.map_congr_left
  intro i hi
  have hi' : i < 11 := by simpa using hi
  unfold bitAt
  have e : n / 262144 / 2 ^ (11 - 1 - i) = n / 2 ^ (29 - 1 - i) := by
    rw [Nat.div_div_eq_div_mul, show (262144 : Nat) = 2 ^ 18 by rfl, ← Nat.pow_add, show 18 + (11 - 1 - i) = 29 - 1 - i by omega]
  rw [e]
theorem head_drop (n : Nat) : bitsHead (n % 262144) 18 18 = (bitsHead n 29 29).drop 11 := by
  apply List.ext_getElem
  · simp [bitsHead_length]
  intro i h1 h2
  have hi : i < 18 := by simpa [bitsHead_length] using h1
  simp only [bitsHead, List.getElem_map, List.getElem_drop, List.getElem_range]
  unfold bitAt
  have e : n % 262144 / 2 ^ (18 - 1 - i) % 2 = n / 2 ^ (29 - 1 - (11 + i)) % 2 := by
    rw [show 29 - 1 - (11 + i) = 18 - 1 - i by omega, show (262144 : Nat) = 2 ^ 18 by rfl]
    have h := Nat.testBit_mod_two_pow n 18 (18 - 1 - i)
    have hd : decide (18 - 1 - i < 18) = true := by simp; omega
    rw [hd, Bool.true_and, Nat.testBit_eq_decide_div_mod_eq, Nat.testBit_eq_decide_div_mod_eq] at h
    have h' : (n % 2 ^ 18 / 2 ^ (18 - 1 - i) % 2 = 1) ↔ (n / 2 ^ (18 - 1 - i) % 2 = 1) := by simpa using h
    omega
  rw [e]
theorem and_low (n : Nat) (h : n < 2 ^ 29) : bits .and .i64 (n : Int) 262143 = ((n % 262144 : Nat) : Int) := by
  have := bits_mask .i64 63 (by decide) (fun n h0 h1 => by rw [IntKind.wrap_i64]; omega) 18 (by decide) (n : Int) (by omega) (by omega)
  simpa using this

set_option maxHeartbeats 4000000 in
theorem name_shortP (n : Nat) (fa re : Bool) (sz : Int) (a : Option Addr) (len cap : Nat) (w : World) (hn : n < 2 ^ 11) :
    Calls Tryz.prog 91 #[frameV n false fa re sz a len cap] w fun e w' => e = .returned (.string ⟨(bitsHead n 11 11 ++ [bitB re, 48]).toArray⟩) ∧ Below w.heap.size w w' := by
  have hB := below_box w n false fa re sz a len cap
  have hK := FrAt.box w n false fa re sz a len cap
  unfold frameC at hB hK
  unfold frameV
  have hr := fun W => row_ok n 11 W (by omega) hn
  have hS := mk_list (bitsHead n 11 11)
  generalize ByteArray.mk (bitsHead n 11 11).toArray = S at *
  have hSs : S.size ≤ 11 := by rw [ba_size hS, bitsHead_length]; exact Nat.le_refl _
  have hBs : (ByteArray.mk #[bitB re]).size = 1 := rfl
  have hbl : (ByteArray.mk #[bitB re]).data.toList = [bitB re] := rfl
  have hfb := fun W => frBit_any re W
  generalize ByteArray.mk #[bitB re] = B at *
  have hBm : B.size ≤ 1 := by omega
  have HSL := Hid.mk hS
  have HR := Hid.mk hr
  have HBL := Hid.mk hbl
  have HFB := Hid.mk hfb
  have HK := Hid.mk hK
  clear hr hn hS hbl hfb hBs hK
  go_enter Tryz.func91, Tryz.ntmps91
  go_wp2_with fail
  refine (HR.out _).mono ?_
  rintro e w1 ⟨rfl, hb1⟩
  have hbel1 := bl2 hB hb1
  have k3 := (HK.out.kept hb1).c3
  clear hB hb1 HR HK
  go_wp2_with fail
  refine (HFB.out _).mono ?_
  rintro e w2 ⟨rfl, hw⟩
  subst hw
  go_wp2_with fail
  go_ret
  exact ⟨ret_str1 (by rw [ba_cat, ba_cat, HSL.out, HBL.out]; simp), hbel1⟩
set_option maxHeartbeats 4000000 in
theorem name_longP (n : Nat) (fa re : Bool) (sz : Int) (a : Option Addr) (len cap : Nat) (w : World) (hn : n < 2 ^ 29) :
    Calls Tryz.prog 91 #[frameV n true fa re sz a len cap] w fun e w' => e = .returned (.string ⟨((bitsHead n 29 29).take 11 ++ [49, 49] ++ (bitsHead n 29 29).drop 11 ++ [bitB re]).toArray⟩) ∧ Below w.heap.size w w' := by
  have hB := below_box w n true fa re sz a len cap
  have hK := FrAt.box w n true fa re sz a len cap
  unfold frameC at hB hK
  unfold frameV
  have hr := fun W => row_ok (n / 262144) 11 W (by omega) (by omega)
  have hr2 := fun W => row_ok (n % 262144) 18 W (by omega) (by omega)
  have e1 : (n : Int) / 262144 = ((n / 262144 : Nat) : Int) := by omega
  have e2 := and_low n hn
  rw [← e1] at hr
  rw [← e2] at hr2
  have hS := mk_list (bitsHead (n / 262144) 11 11)
  generalize ByteArray.mk (bitsHead (n / 262144) 11 11).toArray = S at *
  have hSs : S.size ≤ 11 := by rw [ba_size hS, bitsHead_length]; exact Nat.le_refl _
  have hS2 := mk_list (bitsHead (n % 262144) 18 18)
  generalize ByteArray.mk (bitsHead (n % 262144) 18 18).toArray = S2 at *
  have hSs2 : S2.size ≤ 18 := by rw [ba_size hS2, bitsHead_length]; exact Nat.le_refl _
  have hBs : (ByteArray.mk #[bitB re]).size = 1 := rfl
  have hbl : (ByteArray.mk #[bitB re]).data.toList = [bitB re] := rfl
  have hfb := fun W => frBit_any re W
  generalize ByteArray.mk #[bitB re] = B at *
  have hBm : B.size ≤ 1 := by omega
  rw [head_take] at hS
  rw [head_drop] at hS2
  have HSL := Hid.mk hS
  have HSL2 := Hid.mk hS2
  have HR := Hid.mk hr
  have HR2 := Hid.mk hr2
  have HBL := Hid.mk hbl
  have HFB := Hid.mk hfb
  have HK := Hid.mk hK
  clear hr hr2 hn hS hS2 hbl hfb hBs hK e1 e2
  go_enter Tryz.func91, Tryz.ntmps91
  go_wp2_with fail
  refine (HR.out _).mono ?_
  rintro e w1 ⟨rfl, hb1⟩
  have hbel1 := bl2 hB hb1
  have k0 := (HK.out.kept hb1).c0
  have HK1 := Hid.mk (HK.out.kept hb1)
  clear hB hb1 HR HK
  go_wp2_with fail
  refine (HR2.out _).mono ?_
  rintro e w2 ⟨rfl, hb2⟩
  have hbel2 := bl2 hbel1 hb2
  have k3 := (HK1.out.kept hb2).c3
  clear hbel1 hb2 HR2 HK1 k0
  go_wp2_with fail
  refine (HFB.out _).mono ?_
  rintro e w3 ⟨rfl, hw⟩
  subst hw
  go_wp2_with fail
  go_ret
  exact ⟨ret_str1 (by rw [ba_cat, ba_cat, ba_cat, HSL.out, HSL2.out, HBL.out]), hbel2⟩
theorem name_any (f : Fr) (a : Option Addr) (len cap : Nat) (w : World) (h0 : 0 ≤ f.id) (h1 : f.id ≤ topI f.lo) :
    Calls Tryz.prog 91 #[frameV f.id f.lo f.fa f.re f.sz a len cap] w fun e w' => e = .returned (.string ⟨(nameL f).toArray⟩) ∧ Below w.heap.size w w' := by
  obtain ⟨id, lo, fa, re, sz, dt⟩ := f
  obtain ⟨n, rfl⟩ : ∃ n : Nat, id = (n : Int) := ⟨id.toNat, by simp only at h0; omega⟩
  simp only at h0 h1 ⊢
  cases lo
  · exact name_shortP n fa re sz a len cap w (by simp [topI] at h1; omega)
  · exact name_longP n fa re sz a len cap w (by simp [topI] at h1; omega)

set_option maxHeartbeats 2000000 in
theorem form_any (f : Fr) (a : Option Addr) (len cap : Nat) (w : World) :
    Calls Tryz.prog 92 #[frameV f.id f.lo f.fa f.re f.sz a len cap] w fun e w' => e = .returned (.string ⟨(midL f).toArray⟩) ∧ Below w.heap.size w w' := by
  have hB := below_box w f.id f.lo f.fa f.re f.sz a len cap
  unfold frameC at hB
  unfold frameV midL
  obtain ⟨id, lo, fa, re, sz, dt⟩ := f
  simp only at hB ⊢
  cases fa <;> cases lo
  all_goals focus
    go_enter Tryz.func92, Tryz.ntmps92
    go_wp2_with fail
    go_ret
    exact ⟨rfl, hB⟩
end Bw
end Go.Proofs.YthdhhmflfdbkhaaGreatDoor

/- What bits.Of answers of any bytes: each one's eight bits, one behind the other; too many: an error. -/
namespace Go.Proofs.YthdhhmflfdbkhaaGreatDoor
open Go.ChangeShapes Go.WideShapes Go.ChangeAt Go.RowKit
namespace Bw
open Bm

set_option maxHeartbeats 1000000 in
theorem of_many (a : Option Addr) (len cap : Nat) (w : World) (hl : 125 < len) (hm : len ≤ maxLen) :
    Calls Tryz.prog 90 #[.slice a len cap] w fun e w' => e = .returned (.tuple #[.string ⟨#[]⟩, .int .i64 2]) ∧ w' = w := by
  unfold maxLen at hm
  go_enter Tryz.func90, Tryz.ntmps90
  go_wp2_with fail
  go_ret2
  exact ⟨rfl, rfl⟩

set_option maxHeartbeats 2000000 in
theorem of_any (a : Option Addr) (len cap : Nat) (l : List UInt8) (w : World) (hl : len ≤ 125) (hr : IsBytes w a len cap l) :
    Calls Tryz.prog 90 #[.slice a len cap] w fun e w' => e = .returned (.tuple #[.string ⟨(ofL l).toArray⟩, .int .i64 0]) ∧ Below w.heap.size w w' := by
  obtain ⟨hlen, _, _, hnil, hcells⟩ := hr
  have HC : Hid (∀ x, a = some x → ∀ i, i < len → w.cell? (x.add i) = some (.int .u8 (l.getD i 0).toNat)) := hcells
  have HN : Hid (a = none → len = 0) := hnil
  have HL : Hid (l.length = len) := hlen
  clear hcells hnil hlen
  go_enter Tryz.func90, Tryz.ntmps90
  go_wp2_with fail
  go_loopw [4, 12] (fun r i wr => ∃ k : Nat, k ≤ len ∧ i = .int .i64 k ∧ wr.ownsRow w.heap.size 5 1 r (8 * k) (cellsOf (ofL (l.take k))) ∧ Below w.heap.size w wr) (fun _ i _ => len - (intOf i).toNat)
  case atStart => exact ⟨0, Nat.zero_le _, rfl, by simpa [ofL, cellsOf] using World.ownsRow_nil _ _ _ _, Below.refl _ _⟩
  case round =>
    obtain ⟨k, hk, rfl, hown, hbel⟩ := hrel
    by_cases hlt : k < len
    · cases a with
      | none => exact absurd (HN.out rfl) (by omega)
      | some x =>
        have hc := cell_kept hbel (HC.out x rfl k hlt)
        have hlt' : (k : Int) < (len : Int) := by omega
        obtain ⟨c, hcE⟩ : ∃ c, c = l.getD k 0 := ⟨_, rfl⟩
        rw [← hcE] at hc
        have HE : Hid (c = l.getD k 0) := hcE
        clear hcE
        have hcb : (c.toNat : Int) ≤ 255 := by have := c.toNat_lt; omega
        go_wp2_with fail
        refine (appendBits_any u4 (8 * k) (ofL (l.take k)) c.toNat 8 wr w.heap.size hbel.size ?_ (by omega) (by omega) (by omega) hown).mono ?_
        · rw [ofL_length, List.length_take]; have := HL.out; omega
        rintro e w1 ⟨v', rfl, hown1, hbel1⟩
        have hown2 : w1.ownsRow w.heap.size 5 1 v' (8 * (k + 1)) (cellsOf (ofL (l.take (k + 1)))) := by
          rw [take_snocL l k (by have := HL.out; omega), ofL_snoc, ← HE.out]
          exact hown1
        clear hown1 hown
        go_wp2_with fail
        go_roundw
        case rel => exact ⟨k + 1, by omega, by go_num, hown2, hbel.trans hbel1⟩
        case measure => simp [intOf]; omega
    · have e : k = len := by omega
      subst e
      have hcv := convert_own hown
      rw [List.take_of_length_le (by have := HL.out; omega)] at hcv
      clear hown
      go_wp2_with fail
      go_ret2
      exact ⟨rfl, hbel⟩
end Bw
end Go.Proofs.YthdhhmflfdbkhaaGreatDoor

/- What frame.head answers of a right frame. -/
namespace Go.Proofs.YthdhhmflfdbkhaaGreatDoor
open Go.ChangeShapes Go.WideShapes Go.ChangeAt Go.RowKit
namespace Bw
open Bm Cm Go.Sort

theorem sizes_low (n : Nat) (h : n ≤ 8) : n ∈ sizesL ∧ sizesL.idxOf n = n := by
  have : ∀ m : Fin 9, m.val ∈ sizesL ∧ sizesL.idxOf m.val = m.val := by decide +kernel
  exact this ⟨n, by omega⟩
/-- the number that tells the code -/
def sizeI (f : Fr) : Int := if f.re then f.sz else (f.dt.length : Int)
theorem code_idx {f : Fr} (hE : frE f = 0) : idxI sizesI (sizeI f) = (codeN f : Int) ∧ codeN f < 2 ^ 4 := by
  obtain ⟨-, -, e3, e4, e5, e6, e7, e8, e9⟩ := frE_ok hE
  unfold sizeI codeN
  cases hre : f.re
  · exact idx_sizes e9
  · have h := sizes_low f.sz.toNat (by omega)
    have h2 := idx_sizes h.1
    rw [h.2] at h2
    simp only [if_true]
    rw [show ((f.sz.toNat : Nat) : Int) = f.sz by omega] at h2
    exact ⟨by rw [h2.1]; omega, h2.2⟩
theorem FrAt.regrown {w : World} {g : Nat} {id : Int} {lo fa re : Bool} {sz : Int} {a : Option Addr} {len cap : Nat} (h : FrAt w g id lo fa re sz a len cap) (d : Nat) (os : Array Obj) : FrAt (grow (redrawn w d) os) g id lo fa re sz a len cap :=
  ⟨cell_regrown h.c0 d os, cell_regrown h.c1 d os, cell_regrown h.c2 d os, cell_regrown h.c3 d os, cell_regrown h.c4 d os, cell_regrown h.c5 d os⟩

set_option maxHeartbeats 8000000 in
theorem head_any (f : Fr) (a : Option Addr) (len cap : Nat) (w : World) (hS : SizesAt w) (hE : frE f = 0) (hr : IsBytes w a len cap f.dt) :
    Calls Tryz.prog 63 #[frameV f.id f.lo f.fa f.re f.sz a len cap] w fun e w' => e = .returned (.string ⟨(headL f).toArray⟩) ∧ Below w.heap.size w w' := by
  obtain ⟨e1, e2, e3, e4, e5, e6, e7, e8, e9⟩ := frE_ok hE
  have hdl : f.dt.length = len := hr.1
  obtain ⟨hix, hcode⟩ := code_idx hE
  have hB := below_box w f.id f.lo f.fa f.re f.sz a len cap
  have hK := FrAt.box w f.id f.lo f.fa f.re f.sz a len cap
  unfold frameC at hB hK
  have hnm := fun W => name_any f a len cap W e1 e2
  have hfm := fun W => form_any f a len cap W
  unfold frameV at hnm hfm ⊢
  have hco := fun W hW => codeOf_any (sizeI f) W hW
  rw [hix] at hco
  have hro := fun W => row_ok (codeN f) 4 W (by omega) hcode
  have hof := fun W hB => of_any a len cap f.dt W (by omega) hB
  have hNl := mk_list (nameL f)
  have hNs := nameL_len f
  have hMl := mk_list (midL f)
  have hMs := midL_len f
  have hRl := mk_list (bitsHead (codeN f) 4 4)
  have hOl := mk_list (ofL f.dt)
  have hOs : (ofL f.dt).length ≤ 512 := by rw [ofL_length]; omega
  have hfin : headL f = [48] ++ nameL f ++ midL f ++ bitsHead (codeN f) 4 4 ++ ofL f.dt := rfl
  generalize ByteArray.mk (nameL f).toArray = NM at *
  generalize ByteArray.mk (midL f).toArray = MD at *
  generalize ByteArray.mk (bitsHead (codeN f) 4 4).toArray = CD at *
  generalize ByteArray.mk (ofL f.dt).toArray = OF at *
  have z1 : NM.size ≤ 32 := by rw [ba_size hNl, hNs]; split <;> omega
  have z2 : MD.size ≤ 4 := by rw [ba_size hMl]; omega
  have z3 : CD.size ≤ 4 := by rw [ba_size hRl, bitsHead_length]; exact Nat.le_refl _
  have z4 : OF.size ≤ 512 := by rw [ba_size hOl]; exact hOs
  have HS := Hid.mk (hS.kept hB)
  have HBY := Hid.mk (isBytes_below hr hB)
  have HNM := Hid.mk hnm
  have HFM := Hid.mk hfm
  have HCO := Hid.mk hco
  have HRO := Hid.mk hro
  have HOF := Hid.mk hof
  have HK := Hid.mk hK
  have HFIN := Hid.mk hfin
  have HL := Hid.mk (And.intro hNl (And.intro hMl (And.intro hRl hOl)))
  have hlen : (len : Int) ≤ 64 := by omega
  have hsi : sizeI f = if f.re then f.sz else (len : Int) := by unfold sizeI; rw [hdl]
  have HSI := Hid.mk hsi
  clear hS hr hnm hfm hco hro hof hNl hNs hMl hMs hRl hOl hOs hfin hK e1 e2 e3 e4 e5 e6 e7 e8 e9 hE hix hcode hdl hsi
  generalize codeN f = cn at *
  generalize sizeI f = si at *
  cases hre : f.re
  all_goals
    rw [hre] at HNM HFM HK hB HSI HS HBY
    have hsi := HSI.out
    simp only [Bool.false_eq_true, if_false, if_true] at hsi
    subst hsi
    go_enter Tryz.func63, Tryz.ntmps63
    go_wp2_with fail
    refine (HCO.out _ HS.out).mono ?_
    rintro e w1 ⟨rfl, hw1⟩
    subst hw1
    go_wp2_with fail
    refine (HRO.out _).mono ?_
    rintro e w2 ⟨rfl, hb2⟩
    have hbel2 := bl2 hB hb2
    have HBY2 := Hid.mk (isBytes_below HBY.out hb2)
    have HK2 := Hid.mk (HK.out.kept hb2)
    have k5 := HK2.out.c5
    clear hB hb2 HBY HK HCO HRO HS
    go_wp2_with fail
    refine (HOF.out _ HBY2.out).mono ?_
    rintro e w3 ⟨rfl, hb3⟩
    have hbel3 := bl2 hbel2 hb3
    have HK3 := Hid.mk (HK2.out.kept hb3)
    clear hbel2 hb3 HBY2 HK2 k5 HOF
    have r0 := fun d os => (HK3.out.regrown d os).c0
    have r1 := fun d os => (HK3.out.regrown d os).c1
    have r2 := fun d os => (HK3.out.regrown d os).c2
    have r3 := fun d os => (HK3.out.regrown d os).c3
    have r4 := fun d os => (HK3.out.regrown d os).c4
    have r5 := fun d os => (HK3.out.regrown d os).c5
    go_wp2_with fail
    refine wp_region_quiet_below (by kernel_rfl) (by kernel_rfl) ?_
    set_option maxRecDepth 100000 in
    repeat (go_big_quiet_step (first
      | (go_at_call 91; exact Calls.regrown_of (HNM.out _))
      | (go_at_call 92; exact Calls.regrown_of (HFM.out _))))
    refine wpQuiet_nil ?_
    intro _ hw'
    obtain ⟨⟨dq, osq⟩, hw''⟩ := hw'
    subst hw''
    have hbq := bl2 hbel3 (below_regrown w3 dq osq)
    clear r0 r1 r2 r3 r4 r5 hbel3
    go_wp2_with fail
    go_ret
    obtain ⟨l1, l2, l3, l4⟩ := HL.out
    exact ⟨ret_str1 (by rw [HFIN.out, ba_cat, ba_cat, ba_cat, ba_cat, l1, l2, l3, l4]), hbq⟩
end Bw
end Go.Proofs.YthdhhmflfdbkhaaGreatDoor

/- What frame.countOf answers. -/
namespace Go.Proofs.YthdhhmflfdbkhaaGreatDoor
open Go.ChangeShapes Go.WideShapes Go.ChangeAt Go.RowKit
namespace Bw
open Bm Cm

set_option maxHeartbeats 1000000 in
theorem count_0 (p : Nat) (w : World) (h : (p : Int).tmod 8 = 0) :
    Calls Tryz.prog 82 #[.int .i64 p] w fun e w' => e = .returned (.string ⟨(grayL 0).toArray⟩) ∧ Below w.heap.size w w' := by
  have hx : bits .xor .i64 0 0 = 0 := by decide
  have hr := fun W => row_ok 0 3 W (by omega) (by omega)
  have hl : (bitsHead 0 3 3).toArray = #[48, 48, 48] := by decide
  rw [hl] at hr
  have hcn := fun W => Tryz.strings_Count_one ⟨#[48, 48, 48]⟩ 49 W
  have hc2 : Lib.countByte (ByteArray.mk #[48, 48, 48]).data.toList 49 = 0 := by decide
  rw [hc2] at hcn
  have HR := Hid.mk hr
  have HC := Hid.mk hcn
  clear hr hcn hc2 hl
  go_enter Tryz.func82, Tryz.ntmps82
  go_wp2_with fail
  try rw [hx]
  refine (HR.out _).mono ?_
  rintro e w1 ⟨rfl, hb1⟩
  clear HR
  go_wp2_with fail
  refine (HC.out _).mono ?_
  rintro e w2 ⟨rfl, hw⟩
  subst hw
  go_wp2_with fail
  refine (frBit_any false _).mono ?_
  rintro e w3 ⟨rfl, hw⟩
  subst hw
  go_wp2_with fail
  go_ret
  exact ⟨rfl, hb1⟩
set_option maxHeartbeats 1000000 in
theorem count_1 (p : Nat) (w : World) (h : (p : Int).tmod 8 = 1) :
    Calls Tryz.prog 82 #[.int .i64 p] w fun e w' => e = .returned (.string ⟨(grayL 1).toArray⟩) ∧ Below w.heap.size w w' := by
  have hx : bits .xor .i64 1 0 = 1 := by decide
  have hr := fun W => row_ok 1 3 W (by omega) (by omega)
  have hl : (bitsHead 1 3 3).toArray = #[48, 48, 49] := by decide
  rw [hl] at hr
  have hcn := fun W => Tryz.strings_Count_one ⟨#[48, 48, 49]⟩ 49 W
  have hc2 : Lib.countByte (ByteArray.mk #[48, 48, 49]).data.toList 49 = 1 := by decide
  rw [hc2] at hcn
  have HR := Hid.mk hr
  have HC := Hid.mk hcn
  clear hr hcn hc2 hl
  go_enter Tryz.func82, Tryz.ntmps82
  go_wp2_with fail
  try rw [hx]
  refine (HR.out _).mono ?_
  rintro e w1 ⟨rfl, hb1⟩
  clear HR
  go_wp2_with fail
  refine (HC.out _).mono ?_
  rintro e w2 ⟨rfl, hw⟩
  subst hw
  go_wp2_with fail
  refine (frBit_any true _).mono ?_
  rintro e w3 ⟨rfl, hw⟩
  subst hw
  go_wp2_with fail
  go_ret
  exact ⟨rfl, hb1⟩
set_option maxHeartbeats 1000000 in
theorem count_2 (p : Nat) (w : World) (h : (p : Int).tmod 8 = 2) :
    Calls Tryz.prog 82 #[.int .i64 p] w fun e w' => e = .returned (.string ⟨(grayL 2).toArray⟩) ∧ Below w.heap.size w w' := by
  have hx : bits .xor .i64 2 1 = 3 := by decide
  have hr := fun W => row_ok 3 3 W (by omega) (by omega)
  have hl : (bitsHead 3 3 3).toArray = #[48, 49, 49] := by decide
  rw [hl] at hr
  have hcn := fun W => Tryz.strings_Count_one ⟨#[48, 49, 49]⟩ 49 W
  have hc2 : Lib.countByte (ByteArray.mk #[48, 49, 49]).data.toList 49 = 2 := by decide
  rw [hc2] at hcn
  have HR := Hid.mk hr
  have HC := Hid.mk hcn
  clear hr hcn hc2 hl
  go_enter Tryz.func82, Tryz.ntmps82
  go_wp2_with fail
  try rw [hx]
  refine (HR.out _).mono ?_
  rintro e w1 ⟨rfl, hb1⟩
  clear HR
  go_wp2_with fail
  refine (HC.out _).mono ?_
  rintro e w2 ⟨rfl, hw⟩
  subst hw
  go_wp2_with fail
  refine (frBit_any false _).mono ?_
  rintro e w3 ⟨rfl, hw⟩
  subst hw
  go_wp2_with fail
  go_ret
  exact ⟨rfl, hb1⟩
set_option maxHeartbeats 1000000 in
theorem count_3 (p : Nat) (w : World) (h : (p : Int).tmod 8 = 3) :
    Calls Tryz.prog 82 #[.int .i64 p] w fun e w' => e = .returned (.string ⟨(grayL 3).toArray⟩) ∧ Below w.heap.size w w' := by
  have hx : bits .xor .i64 3 1 = 2 := by decide
  have hr := fun W => row_ok 2 3 W (by omega) (by omega)
  have hl : (bitsHead 2 3 3).toArray = #[48, 49, 48] := by decide
  rw [hl] at hr
  have hcn := fun W => Tryz.strings_Count_one ⟨#[48, 49, 48]⟩ 49 W
  have hc2 : Lib.countByte (ByteArray.mk #[48, 49, 48]).data.toList 49 = 1 := by decide
  rw [hc2] at hcn
  have HR := Hid.mk hr
  have HC := Hid.mk hcn
  clear hr hcn hc2 hl
  go_enter Tryz.func82, Tryz.ntmps82
  go_wp2_with fail
  try rw [hx]
  refine (HR.out _).mono ?_
  rintro e w1 ⟨rfl, hb1⟩
  clear HR
  go_wp2_with fail
  refine (HC.out _).mono ?_
  rintro e w2 ⟨rfl, hw⟩
  subst hw
  go_wp2_with fail
  refine (frBit_any true _).mono ?_
  rintro e w3 ⟨rfl, hw⟩
  subst hw
  go_wp2_with fail
  go_ret
  exact ⟨rfl, hb1⟩
set_option maxHeartbeats 1000000 in
theorem count_4 (p : Nat) (w : World) (h : (p : Int).tmod 8 = 4) :
    Calls Tryz.prog 82 #[.int .i64 p] w fun e w' => e = .returned (.string ⟨(grayL 4).toArray⟩) ∧ Below w.heap.size w w' := by
  have hx : bits .xor .i64 4 2 = 6 := by decide
  have hr := fun W => row_ok 6 3 W (by omega) (by omega)
  have hl : (bitsHead 6 3 3).toArray = #[49, 49, 48] := by decide
  rw [hl] at hr
  have hcn := fun W => Tryz.strings_Count_one ⟨#[49, 49, 48]⟩ 49 W
  have hc2 : Lib.countByte (ByteArray.mk #[49, 49, 48]).data.toList 49 = 2 := by decide
  rw [hc2] at hcn
  have HR := Hid.mk hr
  have HC := Hid.mk hcn
  clear hr hcn hc2 hl
  go_enter Tryz.func82, Tryz.ntmps82
  go_wp2_with fail
  try rw [hx]
  refine (HR.out _).mono ?_
  rintro e w1 ⟨rfl, hb1⟩
  clear HR
  go_wp2_with fail
  refine (HC.out _).mono ?_
  rintro e w2 ⟨rfl, hw⟩
  subst hw
  go_wp2_with fail
  refine (frBit_any false _).mono ?_
  rintro e w3 ⟨rfl, hw⟩
  subst hw
  go_wp2_with fail
  go_ret
  exact ⟨rfl, hb1⟩
set_option maxHeartbeats 1000000 in
theorem count_5 (p : Nat) (w : World) (h : (p : Int).tmod 8 = 5) :
    Calls Tryz.prog 82 #[.int .i64 p] w fun e w' => e = .returned (.string ⟨(grayL 5).toArray⟩) ∧ Below w.heap.size w w' := by
  have hx : bits .xor .i64 5 2 = 7 := by decide
  have hr := fun W => row_ok 7 3 W (by omega) (by omega)
  have hl : (bitsHead 7 3 3).toArray = #[49, 49, 49] := by decide
  rw [hl] at hr
  have hcn := fun W => Tryz.strings_Count_one ⟨#[49, 49, 49]⟩ 49 W
  have hc2 : Lib.countByte (ByteArray.mk #[49, 49, 49]).data.toList 49 = 3 := by decide
  rw [hc2] at hcn
  have HR := Hid.mk hr
  have HC := Hid.mk hcn
  clear hr hcn hc2 hl
  go_enter Tryz.func82, Tryz.ntmps82
  go_wp2_with fail
  try rw [hx]
  refine (HR.out _).mono ?_
  rintro e w1 ⟨rfl, hb1⟩
  clear HR
  go_wp2_with fail
  refine (HC.out _).mono ?_
  rintro e w2 ⟨rfl, hw⟩
  subst hw
  go_wp2_with fail
  refine (frBit_any true _).mono ?_
  rintro e w3 ⟨rfl, hw⟩
  subst hw
  go_wp2_with fail
  go_ret
  exact ⟨rfl, hb1⟩
set_option maxHeartbeats 1000000 in
theorem count_6 (p : Nat) (w : World) (h : (p : Int).tmod 8 = 6) :
    Calls Tryz.prog 82 #[.int .i64 p] w fun e w' => e = .returned (.string ⟨(grayL 6).toArray⟩) ∧ Below w.heap.size w w' := by
  have hx : bits .xor .i64 6 3 = 5 := by decide
  have hr := fun W => row_ok 5 3 W (by omega) (by omega)
  have hl : (bitsHead 5 3 3).toArray = #[49, 48, 49] := by decide
  rw [hl] at hr
  have hcn := fun W => Tryz.strings_Count_one ⟨#[49, 48, 49]⟩ 49 W
  have hc2 : Lib.countByte (ByteArray.mk #[49, 48, 49]).data.toList 49 = 2 := by decide
  rw [hc2] at hcn
  have HR := Hid.mk hr
  have HC := Hid.mk hcn
  clear hr hcn hc2 hl
  go_enter Tryz.func82, Tryz.ntmps82
  go_wp2_with fail
  try rw [hx]
  refine (HR.out _).mono ?_
  rintro e w1 ⟨rfl, hb1⟩
  clear HR
  go_wp2_with fail
  refine (HC.out _).mono ?_
  rintro e w2 ⟨rfl, hw⟩
  subst hw
  go_wp2_with fail
  refine (frBit_any false _).mono ?_
  rintro e w3 ⟨rfl, hw⟩
  subst hw
  go_wp2_with fail
  go_ret
  exact ⟨rfl, hb1⟩
set_option maxHeartbeats 1000000 in
theorem count_7 (p : Nat) (w : World) (h : (p : Int).tmod 8 = 7) :
    Calls Tryz.prog 82 #[.int .i64 p] w fun e w' => e = .returned (.string ⟨(grayL 7).toArray⟩) ∧ Below w.heap.size w w' := by
  have hx : bits .xor .i64 7 3 = 4 := by decide
  have hr := fun W => row_ok 4 3 W (by omega) (by omega)
  have hl : (bitsHead 4 3 3).toArray = #[49, 48, 48] := by decide
  rw [hl] at hr
  have hcn := fun W => Tryz.strings_Count_one ⟨#[49, 48, 48]⟩ 49 W
  have hc2 : Lib.countByte (ByteArray.mk #[49, 48, 48]).data.toList 49 = 1 := by decide
  rw [hc2] at hcn
  have HR := Hid.mk hr
  have HC := Hid.mk hcn
  clear hr hcn hc2 hl
  go_enter Tryz.func82, Tryz.ntmps82
  go_wp2_with fail
  try rw [hx]
  refine (HR.out _).mono ?_
  rintro e w1 ⟨rfl, hb1⟩
  clear HR
  go_wp2_with fail
  refine (HC.out _).mono ?_
  rintro e w2 ⟨rfl, hw⟩
  subst hw
  go_wp2_with fail
  refine (frBit_any true _).mono ?_
  rintro e w3 ⟨rfl, hw⟩
  subst hw
  go_wp2_with fail
  go_ret
  exact ⟨rfl, hb1⟩
theorem countOf_any (p : Nat) (w : World) :
    Calls Tryz.prog 82 #[.int .i64 p] w fun e w' => e = .returned (.string ⟨(grayL (p % 8)).toArray⟩) ∧ Below w.heap.size w w' := by
  have hq : (p : Int).tmod 8 = ((p % 8 : Nat) : Int) := by rw [Int.tmod_eq_emod_of_nonneg (by omega)]; omega
  have hlt : p % 8 < 8 := Nat.mod_lt _ (by omega)
  generalize p % 8 = q at *
  match q, hlt with
  | 0, _ => exact count_0 p w hq
  | 1, _ => exact count_1 p w hq
  | 2, _ => exact count_2 p w hq
  | 3, _ => exact count_3 p w hq
  | 4, _ => exact count_4 p w hq
  | 5, _ => exact count_5 p w hq
  | 6, _ => exact count_6 p w hq
  | 7, _ => exact count_7 p w hq
  | n + 8, h => exact absurd h (by omega)
end Bw
end Go.Proofs.YthdhhmflfdbkhaaGreatDoor

/- One step of the register as the program reckons it, in words of 64 bits. -/
namespace Go.Proofs.YthdhhmflfdbkhaaGreatDoor.Cm
open Go Bm

theorem xor_i64 (a b : Nat) (ha : a < 2 ^ 62) (hb : b < 2 ^ 62) : bits .xor .i64 (a : Int) (b : Int) = ((a ^^^ b : Nat) : Int) := by
  have hx : a ^^^ b < 2 ^ 62 := Nat.xor_lt_two_pow ha hb
  have h1 : (BitVec.ofInt 64 (a : Int)).toNat = a := by
    rw [BitVec.ofInt_natCast, BitVec.toNat_ofNat]; exact Nat.mod_eq_of_lt (by omega)
  have h2 : (BitVec.ofInt 64 (b : Int)).toNat = b := by
    rw [BitVec.ofInt_natCast, BitVec.toNat_ofNat]; exact Nat.mod_eq_of_lt (by omega)
  show IntKind.i64.wrap ((BitVec.ofInt 64 (a : Int) ^^^ BitVec.ofInt 64 (b : Int)).toNat : Int) = _
  rw [BitVec.toNat_xor, h1, h2, IntKind.wrap_i64]
  omega
theorem two_pow_cast (s : Nat) : ((2 ^ s : Nat) : Int) = (2 : Int) ^ s := by simp
theorem pow_small (s : Nat) (h : s ≤ 21) : (1 : Int) ≤ 2 ^ s ∧ (2 : Int) ^ s ≤ 2097152 := by
  rw [← two_pow_cast]
  have h1 : 2 ^ s ≤ 2 ^ 21 := Nat.pow_le_pow_right (by omega) h
  have h2 := Nat.two_pow_pos s
  omega
theorem mask_i64 (n s : Nat) (hs : s ≤ 21) (hn : n < 2 ^ 62) : bits .and .i64 (n : Int) (2 ^ s - 1) = ((n % 2 ^ s : Nat) : Int) := by
  have := bits_mask .i64 62 (by decide) (fun n h0 h1 => by rw [IntKind.wrap_i64]; omega) s (by omega) (n : Int) (by omega) (by omega)
  rw [this]
  simp
theorem wrap_small (x : Int) (h0 : -9223372036854775808 ≤ x) (h1 : x < 9223372036854775808) : IntKind.i64.wrap x = x := by rw [IntKind.wrap_i64]; omega
/-- the bit that goes out at the left -/
theorem out_div (n s : Nat) (hs : 1 ≤ s) : 2 * n / 2 ^ s = n / 2 ^ (s - 1) := by
  obtain ⟨t, rfl⟩ : ∃ t, s = t + 1 := ⟨s - 1, by omega⟩
  rw [Nat.add_sub_cancel, Nat.pow_succ, Nat.mul_comm (2 ^ t) 2, Nat.mul_div_mul_left _ _ (by omega)]
theorem out_int (n s : Nat) (hs : 1 ≤ s) : (2 * (n : Int)) / 2 ^ s = ((n / 2 ^ (s - 1) : Nat) : Int) := by
  rw [← out_div n s hs]
  simp
theorem step_eq (s p n d : Nat) (h : n / 2 ^ (s - 1) = d) : crcStep s p n d = 2 * n % 2 ^ s := by
  unfold crcStep; rw [if_pos h, Nat.xor_zero]
theorem step_ne (s p n d : Nat) (h : n / 2 ^ (s - 1) ≠ d) : crcStep s p n d = 2 * n % 2 ^ s ^^^ p := by
  unfold crcStep; rw [if_neg h]
end Go.Proofs.YthdhhmflfdbkhaaGreatDoor.Cm

/- What the method next of check.rule answers: one step of the register. -/
namespace Go.Proofs.YthdhhmflfdbkhaaGreatDoor
open Go.ChangeShapes Go.WideShapes Go.ChangeAt Go.RowKit
namespace Bw
open Bm Cm

theorem mask_walk (n s : Nat) (hs : s ≤ 21) (hn : n ≤ 2097151) : bits .and .i64 ((n : Int) * 2) (wrap64 (wrap64 (2 ^ s) - 1)) = ((2 * n % 2 ^ s : Nat) : Int) := by
  obtain ⟨h1, h2⟩ := pow_small s hs
  have e1 : wrap64 (2 ^ s) = (2 : Int) ^ s := by unfold wrap64; omega
  have e2 : wrap64 ((2 : Int) ^ s - 1) = (2 : Int) ^ s - 1 := by unfold wrap64; omega
  rw [e1, e2]
  have e3 : (n : Int) * 2 = ((2 * n : Nat) : Int) := by omega
  rw [e3]
  exact mask_i64 (2 * n) s hs (by omega)
theorem out_walk (n s : Nat) (hs1 : 1 ≤ s) : (n : Int) * 2 / 2 ^ s = ((n / 2 ^ (s - 1) : Nat) : Int) := by
  rw [Int.mul_comm]; exact out_int n s hs1

set_option maxHeartbeats 1000000 in
theorem next_any (s p f en n d : Nat) (w : World) (hs1 : 1 ≤ s) (hs : s ≤ 21) (hp : p < 2 ^ s) (hn : n < 2 ^ s) :
    Calls Tryz.prog 107 #[.agg #[.int .i64 s, .int .i64 p, .int .i64 f, .int .i64 en], .int .i64 n, .int .i64 d] w fun e w' => e = .returned (.int .i64 (crcStep s p n d)) ∧ Below w.heap.size w w' := by
  have h21 : 2 ^ s ≤ 2 ^ 21 := Nat.pow_le_pow_right (by omega) hs
  have hnb : (n : Int) ≤ 2097151 := by omega
  have hpb : p ≤ 2097151 := by omega
  have hs1' : (1 : Int) ≤ (s : Int) := by omega
  have hs' : (s : Int) ≤ 21 := by omega
  have HM := Hid.mk (mask_walk n s hs (by omega))
  have HO := Hid.mk (out_walk n s hs1)
  have HB := Hid.mk (show 2 * n % 2 ^ s < 2 ^ s from Nat.mod_lt _ (Nat.two_pow_pos s))
  have HC := Hid.mk h21
  clear h21 hp hn
  by_cases hd : n / 2 ^ (s - 1) = d
  · have hc : ((n : Int) * 2 / 2 ^ s != (d : Int)) = false := by rw [HO.out, hd]; simp
    go_enter Tryz.func107, Tryz.ntmps107
    go_wp2_with fail
    go_ret
    exact ⟨by rw [HM.out, step_eq s p n d hd]; rfl, (Below.refl _ _).alloc (Nat.le_refl _) _⟩
  · have hc : ((n : Int) * 2 / 2 ^ s != (d : Int)) = true := by
      rw [HO.out, bne_iff_ne]
      intro h
      exact hd (by exact_mod_cast h)
    go_enter Tryz.func107, Tryz.ntmps107
    go_wp2_with fail
    go_ret
    refine ⟨?_, (Below.refl _ _).alloc (Nat.le_refl _) _⟩
    have h1 := HB.out
    have h2 := HC.out
    rw [HM.out, step_ne s p n d hd, xor_i64 _ _ (by omega) (by omega)]
    rfl
end Bw
end Go.Proofs.YthdhhmflfdbkhaaGreatDoor

/- What check.sum answers of a row by one of the five kinds. -/
namespace Go.Proofs.YthdhhmflfdbkhaaGreatDoor
open Go.ChangeShapes Go.WideShapes Go.ChangeAt Go.RowKit
namespace Bw
open Bm Cm

theorem new_cell (W : World) (cs : Array Value) (t : TypeId) (k g : Nat) (hg : g = W.heap.size) : (W.alloc (.cells cs t)).cell? ⟨g, k, none⟩ = cs[k]? := by
  subst hg
  exact cell_of_row _ _ k _ _ _ (heap_alloc_new W _)
theorem up_lt' {n a c : Nat} (h : n < 2 ^ a) (ha : a ≤ c) : n < 2 ^ c := Nat.lt_of_lt_of_le h (Nat.pow_le_pow_right (Nat.succ_pos 1) ha)
def rk (k : Nat) : Value := .agg #[.int .i64 (kS k), .int .i64 (kP k), .int .i64 (kF k), .int .i64 (kE k)]

set_option maxHeartbeats 4000000 in
theorem sumR_any (s p f en : Nat) (b : ByteArray) (w : World) (hs1 : 1 ≤ s) (hs : s ≤ 21) (hp : p < 2 ^ s) (hf : f < 2 ^ s) (he : en < 2 ^ s) (h1000 : b.size ≤ 1000) (hrow : rowB b.data.toList = true) :
    Calls Tryz.prog 85 #[.agg #[.int .i64 s, .int .i64 p, .int .i64 f, .int .i64 en], .string b] w fun e w' =>
      e = .returned (.tuple #[.string ⟨(bitsHead (crcR s p f b.data.toList ^^^ en) s s).toArray⟩, .int .i64 0]) ∧ Below w.heap.size w w' := by
  have hl : b.data.toList.length = b.size := by simp
  have HL := Hid.mk hl
  have HP := Hid.mk hp
  have HF := Hid.mk hf
  have HE := Hid.mk he
  have HR := Hid.mk hrow
  have hb1 : Below w.heap.size w (w.alloc (.cells #[.int .i64 s, .int .i64 p, .int .i64 f, .int .i64 en] 115)) := (Below.refl _ _).alloc (Nat.le_refl _) _
  have hnc := fun k => new_cell w #[.int .i64 s, .int .i64 p, .int .i64 f, .int .i64 en] 115 k w.heap.size rfl
  have HC := Hid.mk (And.intro (hnc 0) (And.intro (hnc 1) (And.intro (hnc 2) (hnc 3))))
  have HS := Hid.mk (show (w.alloc (.cells #[.int .i64 s, .int .i64 p, .int .i64 f, .int .i64 en] 115)).heap.size = w.heap.size + 1 by simp)
  clear hp hf he hrow hnc hl
  go_enter Tryz.func85, Tryz.ntmps85
  go_wp2_with fail
  generalize hW1 : w.alloc (.cells #[.int .i64 s, .int .i64 p, .int .i64 f, .int .i64 en] 115) = W1 at *
  clear hW1
  go_loopw [6, 12] (fun r i wr => ∃ j : Nat, j ≤ b.size ∧ i = .int .i64 j ∧ r = .int .i64 (crcR s p f (b.data.toList.take j)) ∧ Below W1.heap.size W1 wr) (fun _ i _ => b.size - (intOf i).toNat)
  case atStart => exact ⟨0, Nat.zero_le _, rfl, rfl, Below.refl _ _⟩
  case round =>
    obtain ⟨j, hj, rfl, rfl, hbel⟩ := hrel
    have k0 := cell_kept hbel HC.out.1
    have k1 := cell_kept hbel HC.out.2.1
    have k2 := cell_kept hbel HC.out.2.2.1
    have k3 := cell_kept hbel HC.out.2.2.2
    simp at k0 k1 k2 k3
    have HN := Hid.mk (crcR_lt s p f HP.out HF.out (b.data.toList.take j))
    by_cases hlt : j < b.size
    · have hbit := rowB_at HR.out j hlt
      have hd := (bit_dig hbit).2
      have hd1 := (bit_dig hbit).1
      have HT := Hid.mk (take_snoc b j hlt)
      have hbn := rowB_at' HR.out j hlt
      have hb48 : (48 : Int) ≤ (b[j].toNat : Int) := by omega
      have hb49 : (b[j].toNat : Int) ≤ 49 := by omega
      have HD : Hid (IntKind.i64.wrap (IntKind.u8.wrap ((b[j].toNat : Int) - 48)) = ((dig b[j] : Nat) : Int)) := by
        refine Hid.mk ?_
        rw [hd]
        have e1 : IntKind.u8.wrap ((b[j].toNat : Int) - 48) = (b[j].toNat : Int) - 48 := by simp [IntKind.wrap, IntKind.bits, IntKind.signed]; omega
        rw [e1, IntKind.wrap_i64]; omega
      clear hd hd1 hbit hbn
      go_wp2_with fail
      set_option maxRecDepth 100000 in
      go_region_with (go_at_call 107; rw [HD.out]; refine (next_any s p f en _ (dig b[j]) _ hs1 hs HP.out HN.out).mono ?_; rintro e w2 ⟨rfl, hb2⟩)
      all_goals focus
        have hbel2 : Below W1.heap.size W1 w2 := hbel.drew.trans (hb2.mono hbel.size)
        rw [← crcR_snoc, ← HT.out]
        clear hb2 hbel k0 k1 k2 k3 HD HN
        go_wp2_with fail
        go_roundw
        case rel => exact ⟨j + 1, by omega, by go_num, rfl, hbel2⟩
        case measure => simp [intOf]; omega
    · have e : j = b.size := by omega
      subst e
      rw [List.take_of_length_le (by rw [HL.out]; exact Nat.le_refl _)] at HN ⊢
      have hx := xor_i64 _ _ (up_lt' (c := 62) HN.out (by omega)) (up_lt' (c := 62) HE.out (by omega))
      have hr := row_ok (crcR s p f b.data.toList ^^^ en) s wr (by omega) (Nat.xor_lt_two_pow HN.out HE.out)
      have HX := Hid.mk hx
      have HRO := Hid.mk hr
      clear hx hr
      go_wp2_with fail
      rw [HX.out]
      refine HRO.out.mono ?_
      rintro e w2 ⟨rfl, hb2⟩
      go_wp2_with fail
      go_ret2
      exact ⟨rfl, hb1.trans ((hbel.trans (hb2.mono hbel.size)).mono hb1.size)⟩
end Bw
end Go.Proofs.YthdhhmflfdbkhaaGreatDoor

/- What check.Sum answers, errors too, where the table of kinds lies as its initialiser lays it. -/
namespace Go.Proofs.YthdhhmflfdbkhaaGreatDoor
open Go.ChangeShapes Go.WideShapes Go.ChangeAt Go.RowKit
namespace Bw
open Bm Cm

/-- the table of kinds, cell by cell -/
def RulesAt (w : World) : Prop := ∀ k, k ≤ 4 → w.cell? ⟨1, k * 4, none⟩ = some (.int .i64 (kS k)) ∧ w.cell? ⟨1, k * 4 + 1, none⟩ = some (.int .i64 (kP k)) ∧ w.cell? ⟨1, k * 4 + 2, none⟩ = some (.int .i64 (kF k)) ∧ w.cell? ⟨1, k * 4 + 3, none⟩ = some (.int .i64 (kE k))
theorem RulesAt.kept {w w' : World} (h : RulesAt w) (hb : Below w.heap.size w w') : RulesAt w' := fun k hk =>
  ⟨cell_kept hb (h k hk).1, cell_kept hb (h k hk).2.1, cell_kept hb (h k hk).2.2.1, cell_kept hb (h k hk).2.2.2⟩

set_option maxHeartbeats 1000000 in
theorem isKind_any (k : Int) (w : World) :
    Calls Tryz.prog 84 #[.int .i64 k] w fun e w' => e = .returned (.bool (decide (0 ≤ k) && decide (k < 5))) ∧ w' = w := by
  by_cases h : 0 ≤ k
  · have h0 : decide (k ≥ 0) = true := by simpa using h
    have h0' : decide (0 ≤ k) = true := by simpa using h
    go_enter Tryz.func84, Tryz.ntmps84
    go_wp2_with fail
    go_ret
    exact ⟨by first | rfl | (rw [h0']; rfl), rfl⟩
  · have h0 : decide (k ≥ 0) = false := by simpa using h
    have h0' : decide (0 ≤ k) = false := by simpa using h
    go_enter Tryz.func84, Tryz.ntmps84
    go_wp2_with fail
    go_ret
    exact ⟨by first | rfl | (rw [h0']; rfl), rfl⟩
theorem isKind_yes (k : Nat) (w : World) (hk : k ≤ 4) : Calls Tryz.prog 84 #[.int .i64 k] w fun e w' => e = .returned (.bool true) ∧ w' = w :=
  (isKind_any k w).mono fun e w' ⟨h1, h2⟩ => ⟨by
    have a : decide ((0 : Int) ≤ (k : Int)) = true := by simp
    have b : decide ((k : Int) < 5) = true := by simp; omega
    rw [h1, a, b]; rfl, h2⟩
theorem isKind_no (k : Int) (w : World) (hk : k < 0 ∨ 4 < k) : Calls Tryz.prog 84 #[.int .i64 k] w fun e w' => e = .returned (.bool false) ∧ w' = w :=
  (isKind_any k w).mono fun e w' ⟨h1, h2⟩ => ⟨by
    have : (decide ((0 : Int) ≤ k) && decide (k < 5)) = false := by
      rcases hk with h | h
      · have : decide ((0 : Int) ≤ k) = false := by simpa using h
        rw [this]; rfl
      · have : decide (k < 5) = false := by simp; omega
        rw [this]; simp
    rw [h1, this], h2⟩

set_option maxHeartbeats 2000000 in
theorem sum_bad (k : Int) (b : ByteArray) (w : World) (hb : b.size ≤ maxLen) (hc : checkE b.data.toList ≠ 0) :
    Calls Tryz.prog 58 #[.int .i64 k, .string b] w fun e w' => e = .returned (.tuple #[.string ⟨#[]⟩, .int .i64 (checkE b.data.toList)]) ∧ Below w.heap.size w w' := by
  have h1 := check_any b w hb
  have hne : (checkE b.data.toList != 0) = true := by simpa using hc
  generalize checkE b.data.toList = ce at *
  go_enter Tryz.func58, Tryz.ntmps58
  go_wp2_with fail
  refine h1.mono ?_
  rintro e w1 ⟨rfl, hb1⟩
  go_wp2_with fail
  go_ret2
  exact ⟨rfl, hb1⟩
set_option maxHeartbeats 2000000 in
theorem sum_who (k : Int) (b : ByteArray) (w : World) (hb : b.size ≤ maxLen) (hc : checkE b.data.toList = 0) (hk : k < 0 ∨ 4 < k) :
    Calls Tryz.prog 58 #[.int .i64 k, .string b] w fun e w' => e = .returned (.tuple #[.string ⟨#[]⟩, .int .i64 8]) ∧ Below w.heap.size w w' := by
  have h1 := check_any b w hb
  rw [hc] at h1
  have HK := Hid.mk hk
  clear hk hc
  go_enter Tryz.func58, Tryz.ntmps58
  go_wp2_with fail
  refine h1.mono ?_
  rintro e w1 ⟨rfl, hb1⟩
  clear h1
  go_wp2_with fail
  refine (isKind_no k w1 HK.out).mono ?_
  rintro e w2 ⟨rfl, hw2⟩
  subst hw2
  go_wp2_with fail
  go_ret2
  exact ⟨rfl, hb1⟩
set_option maxHeartbeats 2000000 in
theorem sum_ok (k : Nat) (b : ByteArray) (w : World) (hR : RulesAt w) (hc : checkE b.data.toList = 0) (hk : k ≤ 4) :
    Calls Tryz.prog 58 #[.int .i64 k, .string b] w fun e w' => e = .returned (.tuple #[.string ⟨(sumL k b.data.toList).toArray⟩, .int .i64 0]) ∧ Below w.heap.size w w' := by
  obtain ⟨h1000, hrow⟩ := small_of_check hc
  have h1 := check_any b w (by unfold maxLen; omega)
  rw [hc] at h1
  obtain ⟨s8, s21, p1, hp, hf, he, _⟩ := kinds_ok k hk
  have h2 := fun W => sumR_any (kS k) (kP k) (kF k) (kE k) b W (by omega) s21 hp hf he h1000 hrow
  have H2 := Hid.mk h2
  have H3 := Hid.mk hR
  have hk' : (k : Int) < 5 := by omega
  clear hR hc hp hf he hrow h2
  go_enter Tryz.func58, Tryz.ntmps58
  go_wp2_with fail
  refine h1.mono ?_
  rintro e w1 ⟨rfl, hb1⟩
  clear h1
  obtain ⟨c0, c1, c2, c3⟩ := H3.out.kept hb1 k hk
  go_wp2_with fail
  refine (isKind_yes k w1 hk).mono ?_
  rintro e w2 ⟨rfl, hw2⟩
  subst hw2
  go_wp2_with fail
  refine (H2.out _).mono ?_
  rintro e w3 ⟨rfl, hb3⟩
  go_wp2_with fail
  go_ret2
  exact ⟨rfl, bl2 hb1 hb3⟩

end Bw
end Go.Proofs.YthdhhmflfdbkhaaGreatDoor

/- What the small parts of package stuff answer: the other bit, whether a length is one, and the run that takes a bit more. -/
namespace Go.Proofs.YthdhhmflfdbkhaaGreatDoor
open Go.ChangeShapes Go.WideShapes Go.ChangeAt Go.RowKit
namespace Bw
open Bm

/-- but for one block all is as it was -/
structure AtOnly (g : Nat) (w w' : World) : Prop where
  os : w'.os = w.os
  tape : w'.tape = w.tape
  output : w'.output = w.output
  size : w'.heap.size = w.heap.size
  block : ∀ k, k ≠ g → w'.heap[k]? = w.heap[k]?
theorem AtOnly.setCell (w : World) (a : Addr) (u : Value) : AtOnly a.block w (w.setCell a u) :=
  ⟨rfl, rfl, rfl, by simp [World.setCell], fun _ hk => Below.heap_setCell _ _ _ _ hk⟩
theorem AtOnly.trans {g : Nat} {a b c : World} (h : AtOnly g a b) (k : AtOnly g b c) : AtOnly g a c :=
  ⟨k.os.trans h.os, k.tape.trans h.tape, k.output.trans h.output, k.size.trans h.size, fun i hi => (k.block i hi).trans (h.block i hi)⟩
theorem AtOnly.below {g B : Nat} {w w' : World} (h : AtOnly g w w') (hB : B ≤ g) : Below B w w' :=
  ⟨h.os, h.tape, h.output, by rw [h.size]; exact Nat.le_refl _, fun k hk => h.block k (by omega)⟩
theorem AtOnly.owns {g : Nat} {w w' : World} (h : AtOnly g w w') {base : Nat} {e : TypeId} {size : Nat} {v : Value} {n : Nat} {xs : List Value} (ho : w.ownsRow base e size v n xs) (hb : g < base) : w'.ownsRow base e size v n xs := by
  obtain ⟨h1, h2⟩ := ho
  refine ⟨h1, ?_⟩
  rcases h2 with h2 | ⟨k, cap, cur, hv, hk, hh, r⟩
  · exact Or.inl h2
  · exact Or.inr ⟨k, cap, cur, hv, hk, by rw [h.block k (by omega)]; exact hh, r⟩

def isRun (w : World) (g : Nat) (p : UInt8 × Nat) : Prop := w.heap[g]? = some (.cells #[.int .u8 p.1.toNat, .int .i64 p.2] 120 (0, 0))
theorem two_set0 {w : World} {b : Nat} {v x u : Value} {t : TypeId} (h : w.heap[b]? = some (.cells #[v, x] t (0, 0))) : (w.setCell ⟨b, 0, none⟩ u).heap[b]? = some (.cells #[u, x] t (0, 0)) := by
  have hlt := lt_of_block h
  have h' : w.heap[b] = .cells #[v, x] t (0, 0) := by simpa [Array.getElem?_eq_getElem hlt] using h
  show (w.heap.modify b _)[b]? = _
  rw [Array.getElem?_eq_getElem (by simpa using hlt), Array.getElem_modify_self, h']
  rfl
theorem two_set1 {w : World} {b : Nat} {v x u : Value} {t : TypeId} (h : w.heap[b]? = some (.cells #[v, x] t (0, 0))) : (w.setCell ⟨b, 1, none⟩ u).heap[b]? = some (.cells #[v, u] t (0, 0)) := by
  have hlt := lt_of_block h
  have h' : w.heap[b] = .cells #[v, x] t (0, 0) := by simpa [Array.getElem?_eq_getElem hlt] using h
  show (w.heap.modify b _)[b]? = _
  rw [Array.getElem?_eq_getElem (by simpa using hlt), Array.getElem_modify_self, h']
  rfl

set_option maxHeartbeats 1000000 in
theorem otherS_any (c : UInt8) (w : World) (h : bit c = true) :
    Calls Tryz.prog 83 #[.int .u8 c.toNat] w fun e w' => e = .returned (.int .u8 (otb c).toNat) ∧ w' = w := by
  rcases (bit_iff c).1 h with h | h
  · have : c = 48 := UInt8.toNat_inj.1 (by show c.toNat = 48; omega)
    subst this
    go_enter Tryz.func83, Tryz.ntmps83
    go_wp2; go_ret; exact ⟨rfl, rfl⟩
  · have : c = 49 := UInt8.toNat_inj.1 (by show c.toNat = 49; omega)
    subst this
    go_enter Tryz.func83, Tryz.ntmps83
    go_wp2; go_ret; exact ⟨rfl, rfl⟩

set_option maxHeartbeats 2000000 in
theorem add_same (g : Nat) (c : UInt8) (n : Nat) (w : World) (hn : n ≤ 1000) (hg : isRun w g (c, n)) :
    Calls Tryz.prog 93 #[.pointer (some ⟨g, 0, none⟩), .int .u8 c.toNat] w fun e w' => e = .returned (.bool ((n : Int) + 1 == 5)) ∧ isRun w' g (c, n + 1) ∧ AtOnly g w w' := by
  unfold isRun at *
  have c0 := cell_of_row w g 0 _ _ _ hg
  have c1 := cell_of_row w g 1 _ _ _ hg
  have f0 : w.frozen? ⟨g, 0, none⟩ = false := by simp [World.frozen?, hg]
  have f1 : w.frozen? ⟨g, 1, none⟩ = false := by simp [World.frozen?, hg]
  simp at c0 c1
  have HG := Hid.mk hg
  clear hg
  go_enter Tryz.func93, Tryz.ntmps93
  go_wp2
  go_ret
  exact ⟨rfl, two_set1 HG.out, AtOnly.setCell w ⟨g, 1, none⟩ _⟩

set_option maxHeartbeats 2000000 in
theorem add_other (g : Nat) (d c : UInt8) (n : Nat) (w : World) (hne : c ≠ d) (hg : isRun w g (d, n)) :
    Calls Tryz.prog 93 #[.pointer (some ⟨g, 0, none⟩), .int .u8 c.toNat] w fun e w' => e = .returned (.bool false) ∧ isRun w' g (c, 1) ∧ AtOnly g w w' := by
  unfold isRun at *
  have c0 := cell_of_row w g 0 _ _ _ hg
  have c1 := cell_of_row w g 1 _ _ _ hg
  have f0 : w.frozen? ⟨g, 0, none⟩ = false := by simp [World.frozen?, hg]
  have f1 : w.frozen? ⟨g, 1, none⟩ = false := by simp [World.frozen?, hg]
  have hne' : ((c.toNat : Int) == (d.toNat : Int)) = false := by
    have : c.toNat ≠ d.toNat := fun h => hne (UInt8.toNat_inj.1 h)
    rw [beq_eq_false_iff_ne]; omega
  have c2 := cell_of_row _ g 1 _ _ _ (two_set1 (u := .int .i64 1) (two_set1 (u := .int .i64 0) (two_set0 (u := .int .u8 c.toNat) hg)))
  simp only [List.getElem?_toArray, List.getElem?_cons_succ, List.getElem?_cons_zero] at c2
  simp at c0 c1
  have HG := Hid.mk hg
  clear hg hne
  go_enter Tryz.func93, Tryz.ntmps93
  go_wp2
  go_ret
  exact ⟨rfl, two_set1 (two_set1 (two_set0 HG.out)), ((AtOnly.setCell w ⟨g, 0, none⟩ _).trans (AtOnly.setCell _ ⟨g, 1, none⟩ _)).trans (AtOnly.setCell _ ⟨g, 1, none⟩ _)⟩

theorem add_any (g : Nat) (p : UInt8 × Nat) (c : UInt8) (w : World) (hn : p.2 ≤ 1000) (hg : isRun w g p) :
    Calls Tryz.prog 93 #[.pointer (some ⟨g, 0, none⟩), .int .u8 c.toNat] w fun e w' => e = .returned (.bool ((addR p c).2 == 5)) ∧ isRun w' g (addR p c) ∧ AtOnly g w w' := by
  by_cases h : c = p.1
  · subst h
    rw [addR_same]
    refine (add_same g p.1 p.2 w hn hg).mono ?_
    rintro e w' ⟨rfl, h1, h2⟩
    refine ⟨?_, h1, h2⟩
    congr 2
    rw [Bool.eq_iff_iff]
    simp only [beq_iff_eq]
    omega
  · rw [addR_other h]
    exact add_other g p.1 c p.2 w h hg

set_option maxHeartbeats 400000 in
theorem isLength_yes (n : Int) (w : World) (h0 : 0 ≤ n) (h1 : n ≤ 1000) :
    Calls Tryz.prog 105 #[.int .i64 n] w fun e w' => e = .returned (.bool true) ∧ w' = w := by
  go_enter Tryz.func105, Tryz.ntmps105
  go_wp2; go_ret; exact ⟨rfl, rfl⟩
set_option maxHeartbeats 400000 in
theorem isLength_no (n : Int) (w : World) (h : n < 0 ∨ 1000 < n) :
    Calls Tryz.prog 105 #[.int .i64 n] w fun e w' => e = .returned (.bool false) ∧ w' = w := by
  by_cases h0 : n < 0
  · clear h
    go_enter Tryz.func105, Tryz.ntmps105
    go_wp2; go_ret; exact ⟨rfl, rfl⟩
  · have h1 : 1000 < n := by omega
    have h2 : 0 ≤ n := by omega
    have h3 : decide (n ≤ 1000) = false := by simpa using h1
    clear h h0
    go_enter Tryz.func105, Tryz.ntmps105
    go_wp2; go_ret; exact ⟨rfl, rfl⟩
end Bw
end Go.Proofs.YthdhhmflfdbkhaaGreatDoor
