/- Joined out of our texts: FrCheck, FrName, FrForm, FrHead, FrBits, FrBack, EqualB, RefSame, ShelfPre, Framed, FrNamed, SizesRow, NameMath, RulesRow. -/
import Derived.Test.YtacfkdgepknpkalDoorLawFrameNamesPAC
import Derived.Test.YtacfkdgepknpkalDoorLawFrameNamesPAD
import Derived.Test.YtacfkdgepknpkalDoorLawFrameNamesPAB
import Derived.Test.YtacfkdgepknpkalDoorLawFrameNamesPAA
import Derived.BigQuiet
import Derived.Lib.QuietBelow
import Derived.Shelf.Strings.Prefix
import Derived.Test.YtacfkdgepknpkalDoorProg
import Derived.Test.YtacfkdgepknpkalDoorRows
import Derived.Lib.LaidU8
import Derived.Lib.Strings
/- What frame.Check answers of any frame. -/
namespace Go.Proofs.YtacfkdgepknpkalDoor
open Go.ChangeShapes Go.WideShapes Go.ChangeAt Go.RowKit
namespace Bw
open Bm Cm

set_option linter.unusedVariables false
theorem idx_neg (n : Nat) : idxI sizesI (n : Int) < 0 ↔ n ∉ sizesL := by
  constructor
  · intro h hm
    have := (idx_sizes hm).1
    omega
  · intro h
    rw [idxI_none]
    · omega
    · intro hm
      apply h
      unfold sizesI at hm
      obtain ⟨m, h1, h2⟩ := List.mem_map.1 hm
      have : m = n := by omega
      rw [← this]; exact h1
theorem below_dr {w a : World} (h : Below w.heap.size w a) (n : Nat) : Below w.heap.size w (a.drewN n) := bl2 h ⟨rfl, rfl, rfl, Nat.le_refl _, fun _ _ => rfl⟩
def frameC (id : Int) (lo fa re : Bool) (sz : Int) (a : Option Addr) (len cap : Nat) : Obj := .cells #[.int .i64 id, .bool lo, .bool fa, .bool re, .int .i64 sz, .slice a len cap] 24
/-- block g holds a frame -/
structure FrAt (w : World) (g : Nat) (id : Int) (lo fa re : Bool) (sz : Int) (a : Option Addr) (len cap : Nat) : Prop where
  c0 : w.cell? ⟨g, 0, none⟩ = some (.int .i64 id)
  c1 : w.cell? ⟨g, 1, none⟩ = some (.bool lo)
  c2 : w.cell? ⟨g, 2, none⟩ = some (.bool fa)
  c3 : w.cell? ⟨g, 3, none⟩ = some (.bool re)
  c4 : w.cell? ⟨g, 4, none⟩ = some (.int .i64 sz)
  c5 : w.cell? ⟨g, 5, none⟩ = some (.slice a len cap)
theorem FrAt.kept {w w' : World} {g : Nat} {id : Int} {lo fa re : Bool} {sz : Int} {a : Option Addr} {len cap : Nat} (h : FrAt w g id lo fa re sz a len cap) (hb : Below w.heap.size w w') : FrAt w' g id lo fa re sz a len cap :=
  ⟨cell_kept hb h.c0, cell_kept hb h.c1, cell_kept hb h.c2, cell_kept hb h.c3, cell_kept hb h.c4, cell_kept hb h.c5⟩
theorem FrAt.box (w : World) (id : Int) (lo fa re : Bool) (sz : Int) (a : Option Addr) (len cap : Nat) : FrAt (w.alloc (frameC id lo fa re sz a len cap)) w.heap.size id lo fa re sz a len cap := by
  have h := fun j => cell_of_row (w.alloc (frameC id lo fa re sz a len cap)) w.heap.size j _ _ _ (heap_alloc_new w _)
  exact ⟨h 0, h 1, h 2, h 3, h 4, h 5⟩
theorem below_box (w : World) (id : Int) (lo fa re : Bool) (sz : Int) (a : Option Addr) (len cap : Nat) : Below w.heap.size w (w.alloc (frameC id lo fa re sz a len cap)) := (Below.refl _ _).alloc (Nat.le_refl _) _

set_option maxHeartbeats 4000000 in
theorem ck_low (id : Int) (lo fa re : Bool) (sz : Int) (a : Option Addr) (len cap : Nat) (w : World) (h0 : id < 0) :
    Calls Tryd.prog 10 #[frameV id lo fa re sz a len cap] w fun e w' => e = .returned (.int .i64 3) ∧ Below w.heap.size w w' := by
  have hd0 : decide (id < 0) = true := by simpa using h0
  have hB := below_box w id lo fa re sz a len cap
  unfold frameC at hB
  unfold frameV
  go_enter Tryd.func10, Tryd.ntmps10
  go_wp2_with fail
  go_quiet (fail)
  go_wp2_with fail
  go_ret
  exact ⟨rfl, below_dr hB _⟩
set_option maxHeartbeats 4000000 in
theorem ck_high (id : Int) (lo fa re : Bool) (sz : Int) (a : Option Addr) (len cap : Nat) (w : World) (h0 : 0 ≤ id) (h2 : topI lo < id) :
    Calls Tryd.prog 10 #[frameV id lo fa re sz a len cap] w fun e w' => e = .returned (.int .i64 3) ∧ Below w.heap.size w w' := by
  have hd0 : decide (id < 0) = false := by simp; omega
  have hB := below_box w id lo fa re sz a len cap
  unfold frameC at hB
  unfold frameV
  go_enter Tryd.func10, Tryd.ntmps10
  go_wp2_with fail
  go_quiet ((go_at_call 20; refine Calls.quiet_of_same (maxID_any lo _)))
  go_wp2_with fail
  go_ret
  exact ⟨rfl, below_dr hB _⟩
set_option maxHeartbeats 4000000 in
theorem ck_remF (id : Int) (lo : Bool) (sz : Int) (a : Option Addr) (len cap : Nat) (w : World) (hS : SizesAt w) (hlb : (len : Int) ≤ 9223372036854775807) (h0 : 0 ≤ id) (h2 : id ≤ topI lo)  :
    Calls Tryd.prog 10 #[frameV id lo true true sz a len cap] w fun e w' => e = .returned (.int .i64 4) ∧ Below w.heap.size w w' := by
  have hd0 : decide (id < 0) = false := by simp; omega
  have hB := below_box w id lo true true sz a len cap
  have hK := FrAt.box w id lo true true sz a len cap
  unfold frameC at hB hK
  unfold frameV
  go_enter Tryd.func10, Tryd.ntmps10
  go_wp2_with fail
  go_quiet ((go_at_call 20; refine Calls.quiet_of_same (maxID_any lo _)))
  obtain ⟨W1, hW1⟩ : ∃ W1, W1 = (w.alloc (.cells #[.int .i64 id, .bool lo, .bool true, .bool true, .int .i64 sz, .slice a len cap] 24)).drewN nq := ⟨_, rfl⟩
  have hB1 : Below w.heap.size w W1 := by rw [hW1]; exact below_dr hB nq
  have hK1 : FrAt W1 w.heap.size id lo true true sz a len cap := by rw [hW1]; exact hK.kept ⟨rfl, rfl, rfl, Nat.le_refl _, fun _ _ => rfl⟩
  rw [← hW1]
  obtain ⟨k0, k1, k2, k3, k4, k5⟩ := hK1
  clear hB hK hW1
  clear hS hlb
  go_wp2_with fail
  go_ret
  exact ⟨rfl, hB1⟩
set_option maxHeartbeats 4000000 in
theorem ck_remD (id : Int) (lo : Bool) (sz : Int) (a : Option Addr) (len cap : Nat) (w : World) (hS : SizesAt w) (hlb : (len : Int) ≤ 9223372036854775807) (h0 : 0 ≤ id) (h2 : id ≤ topI lo) (h3 : (0 : Int) < (len : Int)) :
    Calls Tryd.prog 10 #[frameV id lo false true sz a len cap] w fun e w' => e = .returned (.int .i64 4) ∧ Below w.heap.size w w' := by
  have hd0 : decide (id < 0) = false := by simp; omega
  have hB := below_box w id lo false true sz a len cap
  have hK := FrAt.box w id lo false true sz a len cap
  unfold frameC at hB hK
  unfold frameV
  go_enter Tryd.func10, Tryd.ntmps10
  go_wp2_with fail
  go_quiet ((go_at_call 20; refine Calls.quiet_of_same (maxID_any lo _)))
  obtain ⟨W1, hW1⟩ : ∃ W1, W1 = (w.alloc (.cells #[.int .i64 id, .bool lo, .bool false, .bool true, .int .i64 sz, .slice a len cap] 24)).drewN nq := ⟨_, rfl⟩
  have hB1 : Below w.heap.size w W1 := by rw [hW1]; exact below_dr hB nq
  have hK1 : FrAt W1 w.heap.size id lo false true sz a len cap := by rw [hW1]; exact hK.kept ⟨rfl, rfl, rfl, Nat.le_refl _, fun _ _ => rfl⟩
  rw [← hW1]
  obtain ⟨k0, k1, k2, k3, k4, k5⟩ := hK1
  clear hB hK hW1
  clear hS
  go_wp2_with fail
  go_ret
  exact ⟨rfl, hB1⟩
set_option maxHeartbeats 4000000 in
theorem ck_szL (id : Int) (lo fa : Bool) (sz : Int) (a : Option Addr) (len cap : Nat) (w : World) (hS : SizesAt w) (hlb : (len : Int) ≤ 9223372036854775807) (h0 : 0 ≤ id) (h2 : id ≤ topI lo) (h3 : sz < 0) :
    Calls Tryd.prog 10 #[frameV id lo fa false sz a len cap] w fun e w' => e = .returned (.int .i64 3) ∧ Below w.heap.size w w' := by
  have hd0 : decide (id < 0) = false := by simp; omega
  have hB := below_box w id lo fa false sz a len cap
  have hK := FrAt.box w id lo fa false sz a len cap
  unfold frameC at hB hK
  unfold frameV
  go_enter Tryd.func10, Tryd.ntmps10
  go_wp2_with fail
  go_quiet ((go_at_call 20; refine Calls.quiet_of_same (maxID_any lo _)))
  obtain ⟨W1, hW1⟩ : ∃ W1, W1 = (w.alloc (.cells #[.int .i64 id, .bool lo, .bool fa, .bool false, .int .i64 sz, .slice a len cap] 24)).drewN nq := ⟨_, rfl⟩
  have hB1 : Below w.heap.size w W1 := by rw [hW1]; exact below_dr hB nq
  have hK1 : FrAt W1 w.heap.size id lo fa false sz a len cap := by rw [hW1]; exact hK.kept ⟨rfl, rfl, rfl, Nat.le_refl _, fun _ _ => rfl⟩
  rw [← hW1]
  obtain ⟨k0, k1, k2, k3, k4, k5⟩ := hK1
  clear hB hK hW1
  clear hS hlb
  go_wp2_with fail
  go_ret
  exact ⟨rfl, hB1⟩
set_option maxHeartbeats 4000000 in
theorem ck_szH (id : Int) (lo fa : Bool) (sz : Int) (a : Option Addr) (len cap : Nat) (w : World) (hS : SizesAt w) (hlb : (len : Int) ≤ 9223372036854775807) (h0 : 0 ≤ id) (h2 : id ≤ topI lo) (h3 : 8 < sz) :
    Calls Tryd.prog 10 #[frameV id lo fa false sz a len cap] w fun e w' => e = .returned (.int .i64 3) ∧ Below w.heap.size w w' := by
  have hd0 : decide (id < 0) = false := by simp; omega
  have hB := below_box w id lo fa false sz a len cap
  have hK := FrAt.box w id lo fa false sz a len cap
  unfold frameC at hB hK
  unfold frameV
  go_enter Tryd.func10, Tryd.ntmps10
  go_wp2_with fail
  go_quiet ((go_at_call 20; refine Calls.quiet_of_same (maxID_any lo _)))
  obtain ⟨W1, hW1⟩ : ∃ W1, W1 = (w.alloc (.cells #[.int .i64 id, .bool lo, .bool fa, .bool false, .int .i64 sz, .slice a len cap] 24)).drewN nq := ⟨_, rfl⟩
  have hB1 : Below w.heap.size w W1 := by rw [hW1]; exact below_dr hB nq
  have hK1 : FrAt W1 w.heap.size id lo fa false sz a len cap := by rw [hW1]; exact hK.kept ⟨rfl, rfl, rfl, Nat.le_refl _, fun _ _ => rfl⟩
  rw [← hW1]
  obtain ⟨k0, k1, k2, k3, k4, k5⟩ := hK1
  clear hB hK hW1
  clear hS hlb
  go_wp2_with fail
  go_ret
  exact ⟨rfl, hB1⟩
set_option maxHeartbeats 4000000 in
theorem ck_szN (id : Int) (lo fa : Bool) (sz : Int) (a : Option Addr) (len cap : Nat) (w : World) (hS : SizesAt w) (hlb : (len : Int) ≤ 9223372036854775807) (h0 : 0 ≤ id) (h2 : id ≤ topI lo) (h3 : 0 < sz) (h4 : sz ≤ 8) :
    Calls Tryd.prog 10 #[frameV id lo fa false sz a len cap] w fun e w' => e = .returned (.int .i64 3) ∧ Below w.heap.size w w' := by
  have hd0 : decide (id < 0) = false := by simp; omega
  have hB := below_box w id lo fa false sz a len cap
  have hK := FrAt.box w id lo fa false sz a len cap
  unfold frameC at hB hK
  unfold frameV
  have h5 : (sz != 0) = true := by simp; omega
  go_enter Tryd.func10, Tryd.ntmps10
  go_wp2_with fail
  go_quiet ((go_at_call 20; refine Calls.quiet_of_same (maxID_any lo _)))
  obtain ⟨W1, hW1⟩ : ∃ W1, W1 = (w.alloc (.cells #[.int .i64 id, .bool lo, .bool fa, .bool false, .int .i64 sz, .slice a len cap] 24)).drewN nq := ⟨_, rfl⟩
  have hB1 : Below w.heap.size w W1 := by rw [hW1]; exact below_dr hB nq
  have hK1 : FrAt W1 w.heap.size id lo fa false sz a len cap := by rw [hW1]; exact hK.kept ⟨rfl, rfl, rfl, Nat.le_refl _, fun _ _ => rfl⟩
  rw [← hW1]
  obtain ⟨k0, k1, k2, k3, k4, k5⟩ := hK1
  clear hB hK hW1
  clear hS hlb
  go_wp2_with fail
  go_ret
  exact ⟨rfl, hB1⟩
set_option maxHeartbeats 4000000 in
theorem ck_rszL (id : Int) (lo : Bool) (sz : Int) (a : Option Addr) (len cap : Nat) (w : World) (hS : SizesAt w) (hlb : (len : Int) ≤ 9223372036854775807) (h0 : 0 ≤ id) (h2 : id ≤ topI lo) (h3 : sz < 0) (hl : (len : Int) ≤ 0) :
    Calls Tryd.prog 10 #[frameV id lo false true sz a len cap] w fun e w' => e = .returned (.int .i64 3) ∧ Below w.heap.size w w' := by
  have hd0 : decide (id < 0) = false := by simp; omega
  have hB := below_box w id lo false true sz a len cap
  have hK := FrAt.box w id lo false true sz a len cap
  unfold frameC at hB hK
  unfold frameV
  go_enter Tryd.func10, Tryd.ntmps10
  go_wp2_with fail
  go_quiet ((go_at_call 20; refine Calls.quiet_of_same (maxID_any lo _)))
  obtain ⟨W1, hW1⟩ : ∃ W1, W1 = (w.alloc (.cells #[.int .i64 id, .bool lo, .bool false, .bool true, .int .i64 sz, .slice a len cap] 24)).drewN nq := ⟨_, rfl⟩
  have hB1 : Below w.heap.size w W1 := by rw [hW1]; exact below_dr hB nq
  have hK1 : FrAt W1 w.heap.size id lo false true sz a len cap := by rw [hW1]; exact hK.kept ⟨rfl, rfl, rfl, Nat.le_refl _, fun _ _ => rfl⟩
  rw [← hW1]
  obtain ⟨k0, k1, k2, k3, k4, k5⟩ := hK1
  clear hB hK hW1
  clear hS
  go_wp2_with fail
  go_ret
  exact ⟨rfl, hB1⟩
set_option maxHeartbeats 4000000 in
theorem ck_rszH (id : Int) (lo : Bool) (sz : Int) (a : Option Addr) (len cap : Nat) (w : World) (hS : SizesAt w) (hlb : (len : Int) ≤ 9223372036854775807) (h0 : 0 ≤ id) (h2 : id ≤ topI lo) (h3 : 8 < sz) (hl : (len : Int) ≤ 0) :
    Calls Tryd.prog 10 #[frameV id lo false true sz a len cap] w fun e w' => e = .returned (.int .i64 3) ∧ Below w.heap.size w w' := by
  have hd0 : decide (id < 0) = false := by simp; omega
  have hB := below_box w id lo false true sz a len cap
  have hK := FrAt.box w id lo false true sz a len cap
  unfold frameC at hB hK
  unfold frameV
  go_enter Tryd.func10, Tryd.ntmps10
  go_wp2_with fail
  go_quiet ((go_at_call 20; refine Calls.quiet_of_same (maxID_any lo _)))
  obtain ⟨W1, hW1⟩ : ∃ W1, W1 = (w.alloc (.cells #[.int .i64 id, .bool lo, .bool false, .bool true, .int .i64 sz, .slice a len cap] 24)).drewN nq := ⟨_, rfl⟩
  have hB1 : Below w.heap.size w W1 := by rw [hW1]; exact below_dr hB nq
  have hK1 : FrAt W1 w.heap.size id lo false true sz a len cap := by rw [hW1]; exact hK.kept ⟨rfl, rfl, rfl, Nat.le_refl _, fun _ _ => rfl⟩
  rw [← hW1]
  obtain ⟨k0, k1, k2, k3, k4, k5⟩ := hK1
  clear hB hK hW1
  clear hS
  go_wp2_with fail
  go_ret
  exact ⟨rfl, hB1⟩
set_option maxHeartbeats 4000000 in
theorem ck_many (id : Int) (lo fa : Bool) (a : Option Addr) (len cap : Nat) (w : World) (hS : SizesAt w) (hlb : (len : Int) ≤ 9223372036854775807) (h0 : 0 ≤ id) (h2 : id ≤ topI lo) (h3 : topDI fa < (len : Int)) :
    Calls Tryd.prog 10 #[frameV id lo fa false 0 a len cap] w fun e w' => e = .returned (.int .i64 2) ∧ Below w.heap.size w w' := by
  have hd0 : decide (id < 0) = false := by simp; omega
  have hB := below_box w id lo fa false 0 a len cap
  have hK := FrAt.box w id lo fa false 0 a len cap
  unfold frameC at hB hK
  unfold frameV
  go_enter Tryd.func10, Tryd.ntmps10
  go_wp2_with fail
  go_quiet ((go_at_call 20; refine Calls.quiet_of_same (maxID_any lo _)))
  obtain ⟨W1, hW1⟩ : ∃ W1, W1 = (w.alloc (.cells #[.int .i64 id, .bool lo, .bool fa, .bool false, .int .i64 0, .slice a len cap] 24)).drewN nq := ⟨_, rfl⟩
  have hB1 : Below w.heap.size w W1 := by rw [hW1]; exact below_dr hB nq
  have hK1 : FrAt W1 w.heap.size id lo fa false 0 a len cap := by rw [hW1]; exact hK.kept ⟨rfl, rfl, rfl, Nat.le_refl _, fun _ _ => rfl⟩
  rw [← hW1]
  obtain ⟨k0, k1, k2, k3, k4, k5⟩ := hK1
  clear hB hK hW1
  clear hS
  go_wp2_with fail
  go_quiet ((go_at_call 21; refine Calls.quiet_of_same (maxData_any fa _)))
  obtain ⟨W2, hW2⟩ : ∃ W2, W2 = W1.drewN nq := ⟨_, rfl⟩
  have hB2 : Below w.heap.size w W2 := by rw [hW2]; exact below_dr hB1 nq
  have j5 : W2.cell? ⟨w.heap.size, 5, none⟩ = some (.slice a len cap) := by rw [hW2]; exact k5
  rw [← hW2]
  clear hB1 hW2 k0 k1 k2 k3 k4 k5
  go_wp2_with fail
  go_ret
  exact ⟨rfl, hB2⟩
set_option maxHeartbeats 4000000 in
theorem ck_form (id : Int) (lo fa : Bool) (a : Option Addr) (len cap : Nat) (w : World) (hS : SizesAt w) (hlb : (len : Int) ≤ 9223372036854775807) (h0 : 0 ≤ id) (h2 : id ≤ topI lo) (h3 : (len : Int) ≤ topDI fa) (hq : idxI sizesI (len : Int) < 0) :
    Calls Tryd.prog 10 #[frameV id lo fa false 0 a len cap] w fun e w' => e = .returned (.int .i64 4) ∧ Below w.heap.size w w' := by
  have hd0 : decide (id < 0) = false := by simp; omega
  have hB := below_box w id lo fa false 0 a len cap
  have hK := FrAt.box w id lo fa false 0 a len cap
  unfold frameC at hB hK
  unfold frameV
  go_enter Tryd.func10, Tryd.ntmps10
  go_wp2_with fail
  go_quiet ((go_at_call 20; refine Calls.quiet_of_same (maxID_any lo _)))
  obtain ⟨W1, hW1⟩ : ∃ W1, W1 = (w.alloc (.cells #[.int .i64 id, .bool lo, .bool fa, .bool false, .int .i64 0, .slice a len cap] 24)).drewN nq := ⟨_, rfl⟩
  have hB1 : Below w.heap.size w W1 := by rw [hW1]; exact below_dr hB nq
  have hK1 : FrAt W1 w.heap.size id lo fa false 0 a len cap := by rw [hW1]; exact hK.kept ⟨rfl, rfl, rfl, Nat.le_refl _, fun _ _ => rfl⟩
  rw [← hW1]
  obtain ⟨k0, k1, k2, k3, k4, k5⟩ := hK1
  clear hB hK hW1
  go_wp2_with fail
  go_quiet ((go_at_call 21; refine Calls.quiet_of_same (maxData_any fa _)))
  obtain ⟨W2, hW2⟩ : ∃ W2, W2 = W1.drewN nq := ⟨_, rfl⟩
  have hB2 : Below w.heap.size w W2 := by rw [hW2]; exact below_dr hB1 nq
  have j5 : W2.cell? ⟨w.heap.size, 5, none⟩ = some (.slice a len cap) := by rw [hW2]; exact k5
  rw [← hW2]
  clear hB1 hW2 k0 k1 k2 k3 k4 k5
  have HS := Hid.mk (hS.kept hB2)
  go_wp2_with fail
  refine (codeOf_any (len : Int) W2 HS.out).mono ?_
  rintro e w1 ⟨rfl, hw⟩
  subst hw
  go_wp2_with fail
  go_ret
  exact ⟨rfl, hB2⟩
set_option maxHeartbeats 4000000 in
theorem ck_ok (id : Int) (lo fa : Bool) (a : Option Addr) (len cap : Nat) (w : World) (hS : SizesAt w) (hlb : (len : Int) ≤ 9223372036854775807) (h0 : 0 ≤ id) (h2 : id ≤ topI lo) (h3 : (len : Int) ≤ topDI fa) (hq : 0 ≤ idxI sizesI (len : Int)) :
    Calls Tryd.prog 10 #[frameV id lo fa false 0 a len cap] w fun e w' => e = .returned (.int .i64 0) ∧ Below w.heap.size w w' := by
  have hd0 : decide (id < 0) = false := by simp; omega
  have hB := below_box w id lo fa false 0 a len cap
  have hK := FrAt.box w id lo fa false 0 a len cap
  unfold frameC at hB hK
  unfold frameV
  go_enter Tryd.func10, Tryd.ntmps10
  go_wp2_with fail
  go_quiet ((go_at_call 20; refine Calls.quiet_of_same (maxID_any lo _)))
  obtain ⟨W1, hW1⟩ : ∃ W1, W1 = (w.alloc (.cells #[.int .i64 id, .bool lo, .bool fa, .bool false, .int .i64 0, .slice a len cap] 24)).drewN nq := ⟨_, rfl⟩
  have hB1 : Below w.heap.size w W1 := by rw [hW1]; exact below_dr hB nq
  have hK1 : FrAt W1 w.heap.size id lo fa false 0 a len cap := by rw [hW1]; exact hK.kept ⟨rfl, rfl, rfl, Nat.le_refl _, fun _ _ => rfl⟩
  rw [← hW1]
  obtain ⟨k0, k1, k2, k3, k4, k5⟩ := hK1
  clear hB hK hW1
  go_wp2_with fail
  go_quiet ((go_at_call 21; refine Calls.quiet_of_same (maxData_any fa _)))
  obtain ⟨W2, hW2⟩ : ∃ W2, W2 = W1.drewN nq := ⟨_, rfl⟩
  have hB2 : Below w.heap.size w W2 := by rw [hW2]; exact below_dr hB1 nq
  have j5 : W2.cell? ⟨w.heap.size, 5, none⟩ = some (.slice a len cap) := by rw [hW2]; exact k5
  rw [← hW2]
  clear hB1 hW2 k0 k1 k2 k3 k4 k5
  have HS := Hid.mk (hS.kept hB2)
  go_wp2_with fail
  refine (codeOf_any (len : Int) W2 HS.out).mono ?_
  rintro e w1 ⟨rfl, hw⟩
  subst hw
  go_wp2_with fail
  go_ret
  exact ⟨rfl, hB2⟩
set_option maxHeartbeats 4000000 in
theorem ck_rok0 (id : Int) (lo : Bool) (a : Option Addr) (len cap : Nat) (w : World) (hS : SizesAt w) (hlb : (len : Int) ≤ 9223372036854775807) (h0 : 0 ≤ id) (h2 : id ≤ topI lo) (hl : (len : Int) ≤ 0) (hq : 0 ≤ idxI sizesI (len : Int)) :
    Calls Tryd.prog 10 #[frameV id lo false true 0 a len cap] w fun e w' => e = .returned (.int .i64 0) ∧ Below w.heap.size w w' := by
  have hd0 : decide (id < 0) = false := by simp; omega
  have hB := below_box w id lo false true 0 a len cap
  have hK := FrAt.box w id lo false true 0 a len cap
  unfold frameC at hB hK
  unfold frameV
  go_enter Tryd.func10, Tryd.ntmps10
  go_wp2_with fail
  go_quiet ((go_at_call 20; refine Calls.quiet_of_same (maxID_any lo _)))
  obtain ⟨W1, hW1⟩ : ∃ W1, W1 = (w.alloc (.cells #[.int .i64 id, .bool lo, .bool false, .bool true, .int .i64 0, .slice a len cap] 24)).drewN nq := ⟨_, rfl⟩
  have hB1 : Below w.heap.size w W1 := by rw [hW1]; exact below_dr hB nq
  have hK1 : FrAt W1 w.heap.size id lo false true 0 a len cap := by rw [hW1]; exact hK.kept ⟨rfl, rfl, rfl, Nat.le_refl _, fun _ _ => rfl⟩
  rw [← hW1]
  obtain ⟨k0, k1, k2, k3, k4, k5⟩ := hK1
  clear hB hK hW1
  have h5 : (len : Int) ≤ topDI false := by simp only [topDI]; simp; omega
  go_wp2_with fail
  go_quiet ((go_at_call 21; refine Calls.quiet_of_same (maxData_any false _)))
  obtain ⟨W2, hW2⟩ : ∃ W2, W2 = W1.drewN nq := ⟨_, rfl⟩
  have hB2 : Below w.heap.size w W2 := by rw [hW2]; exact below_dr hB1 nq
  have j5 : W2.cell? ⟨w.heap.size, 5, none⟩ = some (.slice a len cap) := by rw [hW2]; exact k5
  rw [← hW2]
  clear hB1 hW2 k0 k1 k2 k3 k4 k5
  have HS := Hid.mk (hS.kept hB2)
  go_wp2_with fail
  refine (codeOf_any (len : Int) W2 HS.out).mono ?_
  rintro e w1 ⟨rfl, hw⟩
  subst hw
  go_wp2_with fail
  go_ret
  exact ⟨rfl, hB2⟩
set_option maxHeartbeats 4000000 in
theorem ck_rok1 (id : Int) (lo : Bool) (sz : Int) (a : Option Addr) (len cap : Nat) (w : World) (hS : SizesAt w) (hlb : (len : Int) ≤ 9223372036854775807) (h0 : 0 ≤ id) (h2 : id ≤ topI lo) (h3 : 0 < sz) (h4 : sz ≤ 8) (hl : (len : Int) ≤ 0) (hq : 0 ≤ idxI sizesI (len : Int)) :
    Calls Tryd.prog 10 #[frameV id lo false true sz a len cap] w fun e w' => e = .returned (.int .i64 0) ∧ Below w.heap.size w w' := by
  have hd0 : decide (id < 0) = false := by simp; omega
  have hB := below_box w id lo false true sz a len cap
  have hK := FrAt.box w id lo false true sz a len cap
  unfold frameC at hB hK
  unfold frameV
  have h6 : (sz != 0) = true := by simp; omega
  go_enter Tryd.func10, Tryd.ntmps10
  go_wp2_with fail
  go_quiet ((go_at_call 20; refine Calls.quiet_of_same (maxID_any lo _)))
  obtain ⟨W1, hW1⟩ : ∃ W1, W1 = (w.alloc (.cells #[.int .i64 id, .bool lo, .bool false, .bool true, .int .i64 sz, .slice a len cap] 24)).drewN nq := ⟨_, rfl⟩
  have hB1 : Below w.heap.size w W1 := by rw [hW1]; exact below_dr hB nq
  have hK1 : FrAt W1 w.heap.size id lo false true sz a len cap := by rw [hW1]; exact hK.kept ⟨rfl, rfl, rfl, Nat.le_refl _, fun _ _ => rfl⟩
  rw [← hW1]
  obtain ⟨k0, k1, k2, k3, k4, k5⟩ := hK1
  clear hB hK hW1
  have h5 : (len : Int) ≤ topDI false := by simp only [topDI]; simp; omega
  go_wp2_with fail
  go_quiet ((go_at_call 21; refine Calls.quiet_of_same (maxData_any false _)))
  obtain ⟨W2, hW2⟩ : ∃ W2, W2 = W1.drewN nq := ⟨_, rfl⟩
  have hB2 : Below w.heap.size w W2 := by rw [hW2]; exact below_dr hB1 nq
  have j5 : W2.cell? ⟨w.heap.size, 5, none⟩ = some (.slice a len cap) := by rw [hW2]; exact k5
  rw [← hW2]
  clear hB1 hW2 k0 k1 k2 k3 k4 k5
  have HS := Hid.mk (hS.kept hB2)
  go_wp2_with fail
  refine (codeOf_any (len : Int) W2 HS.out).mono ?_
  rintro e w1 ⟨rfl, hw⟩
  subst hw
  go_wp2_with fail
  go_ret
  exact ⟨rfl, hB2⟩
theorem frCheck_any (id : Int) (lo fa re : Bool) (sz : Int) (a : Option Addr) (len cap : Nat) (w : World) (hS : SizesAt w) (hl : len ≤ maxLen) :
    Calls Tryd.prog 10 #[frameV id lo fa re sz a len cap] w fun e w' => e = .returned (.int .i64 (frEn id lo fa re sz len)) ∧ Below w.heap.size w w' := by
  have hneg := idx_neg len
  have hlb : (len : Int) ≤ 9223372036854775807 := by unfold maxLen at hl; omega
  unfold frEn
  by_cases h1 : id < 0 ∨ topI lo < id
  · rw [if_pos h1]
    by_cases h0 : id < 0
    · exact ck_low id lo fa re sz a len cap w h0
    · exact ck_high id lo fa re sz a len cap w (by omega) (by omega)
  · rw [if_neg h1]
    have h0 : 0 ≤ id := by omega
    have h2 : id ≤ topI lo := by omega
    cases re
    · rw [if_neg (by simp)]
      by_cases h5 : sz < 0 ∨ 8 < sz ∨ (0 < sz ∧ false = false)
      · rw [if_pos h5]
        by_cases h6 : sz < 0
        · exact ck_szL id lo fa sz a len cap w hS hlb h0 h2 h6
        · by_cases h7 : 8 < sz
          · exact ck_szH id lo fa sz a len cap w hS hlb h0 h2 h7
          · exact ck_szN id lo fa sz a len cap w hS hlb h0 h2 (by simp at h5; omega) (by omega)
      · rw [if_neg h5]
        obtain rfl : sz = 0 := by simp at h5; omega
        by_cases h9 : 64 < len ∨ (8 < len ∧ fa = false)
        · rw [if_pos h9]
          exact ck_many id lo fa a len cap w hS hlb h0 h2 (by cases fa <;> simp [topDI] at h9 ⊢ <;> omega)
        · rw [if_neg h9]
          have h10 : (len : Int) ≤ topDI fa := by cases fa <;> simp [topDI] at h9 ⊢ <;> omega
          by_cases hm : len ∈ sizesL
          · rw [if_pos hm]
            exact ck_ok id lo fa a len cap w hS hlb h0 h2 h10 (by rcases Int.lt_or_le (idxI sizesI (len : Int)) 0 with h | h; exact absurd hm (hneg.1 h); exact h)
          · rw [if_neg hm]
            exact ck_form id lo fa a len cap w hS hlb h0 h2 h10 (hneg.2 hm)
    · cases fa
      · by_cases hlen : len = 0
        · subst hlen
          rw [if_neg (by simp)]
          by_cases h5 : sz < 0 ∨ 8 < sz ∨ (0 < sz ∧ true = false)
          · rw [if_pos h5]
            by_cases h6 : sz < 0
            · exact ck_rszL id lo sz a 0 cap w hS hlb h0 h2 h6 (by simp)
            · exact ck_rszH id lo sz a 0 cap w hS hlb h0 h2 (by simp at h5; omega) (by simp)
          · rw [if_neg h5, if_neg (by simp), if_pos (by decide)]
            by_cases hz : sz = 0
            · subst hz
              exact ck_rok0 id lo a 0 cap w hS hlb h0 h2 (by simp) (by decide)
            · exact ck_rok1 id lo sz a 0 cap w hS hlb h0 h2 (by omega) (by omega) (by simp) (by decide)
        · rw [if_pos ⟨rfl, .inr hlen⟩]
          exact ck_remD id lo sz a len cap w hS hlb h0 h2 (by omega)
      · rw [if_pos ⟨rfl, .inl rfl⟩]
        exact ck_remF id lo sz a len cap w hS hlb h0 h2
end Bw
end Go.Proofs.YtacfkdgepknpkalDoor

/- What frame.name and form answer. -/
namespace Go.Proofs.YtacfkdgepknpkalDoor
open Go.ChangeShapes Go.WideShapes Go.ChangeAt Go.RowKit
namespace Bw
open Bm Cm

theorem head_take (n : Nat) : bitsHead (n / 262144) 11 11 = (bitsHead n 29 29).take 11 := by
  unfold bitsHead
  rw [← List.map_take, List.take_range]
  apply List.map_congr_left
  intro i hi
  have hi' : i < 11 := by simpa using hi
  unfold bitAt
  have e : n / 262144 / 2 ^ (11 - 1 - i) = n / 2 ^ (29 - 1 - i) := by
    rw [Nat.div_div_eq_div_mul, show (262144 : Nat) = 2 ^ 18 by rfl, ← Nat.pow_add, show 18 + (11 - 1 - i) = 29 - 1 - i by omega]
  rw [e]
theorem head_drop (n : Nat) : bitsHead (n % 262144) 18 18 = (bitsHead n 29 29).drop 11 := by
  apply List.ext_getElem
  · simp [bitsHead_length]
  intro i h1 h2
  have hi : i < 18 := by simpa [bitsHead_length] using h1
  simp only [bitsHead, List.getElem_map, List.getElem_drop, List.getElem_range]
  unfold bitAt
  have e : n % 262144 / 2 ^ (18 - 1 - i) % 2 = n / 2 ^ (29 - 1 - (11 + i)) % 2 := by
    rw [show 29 - 1 - (11 + i) = 18 - 1 - i by omega, show (262144 : Nat) = 2 ^ 18 by rfl]
    have h := Nat.testBit_mod_two_pow n 18 (18 - 1 - i)
    have hd : decide (18 - 1 - i < 18) = true := by simp; omega
    rw [hd, Bool.true_and, Nat.testBit_eq_decide_div_mod_eq, Nat.testBit_eq_decide_div_mod_eq] at h
    have h' : (n % 2 ^ 18 / 2 ^ (18 - 1 - i) % 2 = 1) ↔ (n / 2 ^ (18 - 1 - i) % 2 = 1) := by simpa using h
    omega
  rw [e]
theorem and_low (n : Nat) (h : n < 2 ^ 29) : bits .and .i64 (n : Int) 262143 = ((n % 262144 : Nat) : Int) := by
  have := bits_mask .i64 63 (by decide) (fun n h0 h1 => by rw [IntKind.wrap_i64]; omega) 18 (by decide) (n : Int) (by omega) (by omega)
  simpa using this

set_option maxHeartbeats 4000000 in
theorem name_shortP (n : Nat) (fa re : Bool) (sz : Int) (a : Option Addr) (len cap : Nat) (w : World) (hn : n < 2 ^ 11) :
    Calls Tryd.prog 19 #[frameV n false fa re sz a len cap] w fun e w' => e = .returned (.string ⟨(bitsHead n 11 11 ++ [bitB re, 48]).toArray⟩) ∧ Below w.heap.size w w' := by
  have hB := below_box w n false fa re sz a len cap
  have hK := FrAt.box w n false fa re sz a len cap
  unfold frameC at hB hK
  unfold frameV
  have hr := fun W => row_ok n 11 W (by omega) hn
  have hS := mk_list (bitsHead n 11 11)
  generalize ByteArray.mk (bitsHead n 11 11).toArray = S at *
  have hSs : S.size ≤ 11 := by rw [ba_size hS, bitsHead_length]; exact Nat.le_refl _
  have hBs : (ByteArray.mk #[bitB re]).size = 1 := rfl
  have hbl : (ByteArray.mk #[bitB re]).data.toList = [bitB re] := rfl
  have hfb := fun W => frBit_any re W
  generalize ByteArray.mk #[bitB re] = B at *
  have hBm : B.size ≤ 1 := by omega
  have HSL := Hid.mk hS
  have HR := Hid.mk hr
  have HBL := Hid.mk hbl
  have HFB := Hid.mk hfb
  have HK := Hid.mk hK
  clear hr hn hS hbl hfb hBs hK
  go_enter Tryd.func19, Tryd.ntmps19
  go_wp2_with fail
  refine (HR.out _).mono ?_
  rintro e w1 ⟨rfl, hb1⟩
  have hbel1 := bl2 hB hb1
  have k3 := (HK.out.kept hb1).c3
  clear hB hb1 HR HK
  go_wp2_with fail
  refine (HFB.out _).mono ?_
  rintro e w2 ⟨rfl, hw⟩
  subst hw
  go_wp2_with fail
  go_ret
  exact ⟨ret_str1 (by rw [ba_cat, ba_cat, HSL.out, HBL.out]; simp), hbel1⟩
set_option maxHeartbeats 4000000 in
theorem name_longP (n : Nat) (fa re : Bool) (sz : Int) (a : Option Addr) (len cap : Nat) (w : World) (hn : n < 2 ^ 29) :
    Calls Tryd.prog 19 #[frameV n true fa re sz a len cap] w fun e w' => e = .returned (.string ⟨((bitsHead n 29 29).take 11 ++ [49, 49] ++ (bitsHead n 29 29).drop 11 ++ [bitB re]).toArray⟩) ∧ Below w.heap.size w w' := by
  have hB := below_box w n true fa re sz a len cap
  have hK := FrAt.box w n true fa re sz a len cap
  unfold frameC at hB hK
  unfold frameV
  have hr := fun W => row_ok (n / 262144) 11 W (by omega) (by omega)
  have hr2 := fun W => row_ok (n % 262144) 18 W (by omega) (by omega)
  have e1 : (n : Int) / 262144 = ((n / 262144 : Nat) : Int) := by omega
  have e2 := and_low n hn
  rw [← e1] at hr
  rw [← e2] at hr2
  have hS := mk_list (bitsHead (n / 262144) 11 11)
  generalize ByteArray.mk (bitsHead (n / 262144) 11 11).toArray = S at *
  have hSs : S.size ≤ 11 := by rw [ba_size hS, bitsHead_length]; exact Nat.le_refl _
  have hS2 := mk_list (bitsHead (n % 262144) 18 18)
  generalize ByteArray.mk (bitsHead (n % 262144) 18 18).toArray = S2 at *
  have hSs2 : S2.size ≤ 18 := by rw [ba_size hS2, bitsHead_length]; exact Nat.le_refl _
  have hBs : (ByteArray.mk #[bitB re]).size = 1 := rfl
  have hbl : (ByteArray.mk #[bitB re]).data.toList = [bitB re] := rfl
  have hfb := fun W => frBit_any re W
  generalize ByteArray.mk #[bitB re] = B at *
  have hBm : B.size ≤ 1 := by omega
  rw [head_take] at hS
  rw [head_drop] at hS2
  have HSL := Hid.mk hS
  have HSL2 := Hid.mk hS2
  have HR := Hid.mk hr
  have HR2 := Hid.mk hr2
  have HBL := Hid.mk hbl
  have HFB := Hid.mk hfb
  have HK := Hid.mk hK
  clear hr hr2 hn hS hS2 hbl hfb hBs hK e1 e2
  go_enter Tryd.func19, Tryd.ntmps19
  go_wp2_with fail
  refine (HR.out _).mono ?_
  rintro e w1 ⟨rfl, hb1⟩
  have hbel1 := bl2 hB hb1
  have k0 := (HK.out.kept hb1).c0
  have HK1 := Hid.mk (HK.out.kept hb1)
  clear hB hb1 HR HK
  go_wp2_with fail
  refine (HR2.out _).mono ?_
  rintro e w2 ⟨rfl, hb2⟩
  have hbel2 := bl2 hbel1 hb2
  have k3 := (HK1.out.kept hb2).c3
  clear hbel1 hb2 HR2 HK1 k0
  go_wp2_with fail
  refine (HFB.out _).mono ?_
  rintro e w3 ⟨rfl, hw⟩
  subst hw
  go_wp2_with fail
  go_ret
  exact ⟨ret_str1 (by rw [ba_cat, ba_cat, ba_cat, HSL.out, HSL2.out, HBL.out]), hbel2⟩
theorem name_any (f : Fr) (a : Option Addr) (len cap : Nat) (w : World) (h0 : 0 ≤ f.id) (h1 : f.id ≤ topI f.lo) :
    Calls Tryd.prog 19 #[frameV f.id f.lo f.fa f.re f.sz a len cap] w fun e w' => e = .returned (.string ⟨(nameL f).toArray⟩) ∧ Below w.heap.size w w' := by
  obtain ⟨id, lo, fa, re, sz, dt⟩ := f
  obtain ⟨n, rfl⟩ : ∃ n : Nat, id = (n : Int) := ⟨id.toNat, by simp only at h0; omega⟩
  simp only at h0 h1 ⊢
  cases lo
  · exact name_shortP n fa re sz a len cap w (by simp [topI] at h1; omega)
  · exact name_longP n fa re sz a len cap w (by simp [topI] at h1; omega)

end Bw
end Go.Proofs.YtacfkdgepknpkalDoor

/- What frame.form answers. -/
namespace Go.Proofs.YtacfkdgepknpkalDoor
open Go.ChangeShapes Go.WideShapes Go.ChangeAt Go.RowKit
namespace Bw
open Bm Cm
set_option maxHeartbeats 2000000 in
theorem form_any (f : Fr) (a : Option Addr) (len cap : Nat) (w : World) :
    Calls Tryd.prog 25 #[frameV f.id f.lo f.fa f.re f.sz a len cap] w fun e w' => e = .returned (.string ⟨(midL f).toArray⟩) ∧ Below w.heap.size w w' := by
  have hB := below_box w f.id f.lo f.fa f.re f.sz a len cap
  unfold frameC at hB
  unfold frameV midL
  obtain ⟨id, lo, fa, re, sz, dt⟩ := f
  simp only at hB ⊢
  cases fa <;> cases lo
  all_goals focus
    go_enter Tryd.func25, Tryd.ntmps25
    go_wp2_with fail
    go_ret
    exact ⟨rfl, hB⟩
end Bw
end Go.Proofs.YtacfkdgepknpkalDoor

/- What frame.head answers of a right frame. -/
namespace Go.Proofs.YtacfkdgepknpkalDoor
open Go.ChangeShapes Go.WideShapes Go.ChangeAt Go.RowKit
namespace Bw
open Bm Cm Go.Sort

theorem sizes_low (n : Nat) (h : n ≤ 8) : n ∈ sizesL ∧ sizesL.idxOf n = n := by
  have : ∀ m : Fin 9, m.val ∈ sizesL ∧ sizesL.idxOf m.val = m.val := by decide +kernel
  exact this ⟨n, by omega⟩
/-- the number that tells the code -/
def sizeI (f : Fr) : Int := if f.re then f.sz else (f.dt.length : Int)
theorem code_idx {f : Fr} (hE : frE f = 0) : idxI sizesI (sizeI f) = (codeN f : Int) ∧ codeN f < 2 ^ 4 := by
  obtain ⟨-, -, e3, e4, e5, e6, e7, e8, e9⟩ := frE_ok hE
  unfold sizeI codeN
  cases hre : f.re
  · exact idx_sizes e9
  · have h := sizes_low f.sz.toNat (by omega)
    have h2 := idx_sizes h.1
    rw [h.2] at h2
    simp only [if_true]
    rw [show ((f.sz.toNat : Nat) : Int) = f.sz by omega] at h2
    exact ⟨by rw [h2.1]; omega, h2.2⟩
theorem FrAt.regrown {w : World} {g : Nat} {id : Int} {lo fa re : Bool} {sz : Int} {a : Option Addr} {len cap : Nat} (h : FrAt w g id lo fa re sz a len cap) (d : Nat) (os : Array Obj) : FrAt (grow (redrawn w d) os) g id lo fa re sz a len cap :=
  ⟨cell_regrown h.c0 d os, cell_regrown h.c1 d os, cell_regrown h.c2 d os, cell_regrown h.c3 d os, cell_regrown h.c4 d os, cell_regrown h.c5 d os⟩

set_option maxHeartbeats 8000000 in
theorem head_any (f : Fr) (a : Option Addr) (len cap : Nat) (w : World) (hS : SizesAt w) (hE : frE f = 0) (hr : IsBytes w a len cap f.dt) :
    Calls Tryd.prog 11 #[frameV f.id f.lo f.fa f.re f.sz a len cap] w fun e w' => e = .returned (.string ⟨(headL f).toArray⟩) ∧ Below w.heap.size w w' := by
  obtain ⟨e1, e2, e3, e4, e5, e6, e7, e8, e9⟩ := frE_ok hE
  have hdl : f.dt.length = len := hr.1
  obtain ⟨hix, hcode⟩ := code_idx hE
  have hB := below_box w f.id f.lo f.fa f.re f.sz a len cap
  have hK := FrAt.box w f.id f.lo f.fa f.re f.sz a len cap
  unfold frameC at hB hK
  have hnm := fun W => name_any f a len cap W e1 e2
  have hfm := fun W => form_any f a len cap W
  unfold frameV at hnm hfm ⊢
  have hco := fun W hW => codeOf_any (sizeI f) W hW
  rw [hix] at hco
  have hro := fun W => row_ok (codeN f) 4 W (by omega) hcode
  have hof := fun W hB => of_any a len cap f.dt W (by omega) hB
  have hNl := mk_list (nameL f)
  have hNs := nameL_len f
  have hMl := mk_list (midL f)
  have hMs := midL_len f
  have hRl := mk_list (bitsHead (codeN f) 4 4)
  have hOl := mk_list (ofL f.dt)
  have hOs : (ofL f.dt).length ≤ 512 := by rw [ofL_length]; omega
  have hfin : headL f = [48] ++ nameL f ++ midL f ++ bitsHead (codeN f) 4 4 ++ ofL f.dt := rfl
  generalize ByteArray.mk (nameL f).toArray = NM at *
  generalize ByteArray.mk (midL f).toArray = MD at *
  generalize ByteArray.mk (bitsHead (codeN f) 4 4).toArray = CD at *
  generalize ByteArray.mk (ofL f.dt).toArray = OF at *
  have z1 : NM.size ≤ 32 := by rw [ba_size hNl, hNs]; split <;> omega
  have z2 : MD.size ≤ 4 := by rw [ba_size hMl]; omega
  have z3 : CD.size ≤ 4 := by rw [ba_size hRl, bitsHead_length]; exact Nat.le_refl _
  have z4 : OF.size ≤ 512 := by rw [ba_size hOl]; exact hOs
  have HS := Hid.mk (hS.kept hB)
  have HBY := Hid.mk (isBytes_below hr hB)
  have HNM := Hid.mk hnm
  have HFM := Hid.mk hfm
  have HCO := Hid.mk hco
  have HRO := Hid.mk hro
  have HOF := Hid.mk hof
  have HK := Hid.mk hK
  have HFIN := Hid.mk hfin
  have HL := Hid.mk (And.intro hNl (And.intro hMl (And.intro hRl hOl)))
  have hlen : (len : Int) ≤ 64 := by omega
  have hsi : sizeI f = if f.re then f.sz else (len : Int) := by unfold sizeI; rw [hdl]
  have HSI := Hid.mk hsi
  clear hS hr hnm hfm hco hro hof hNl hNs hMl hMs hRl hOl hOs hfin hK e1 e2 e3 e4 e5 e6 e7 e8 e9 hE hix hcode hdl hsi
  generalize codeN f = cn at *
  generalize sizeI f = si at *
  cases hre : f.re
  all_goals
    rw [hre] at HNM HFM HK hB HSI HS HBY
    have hsi := HSI.out
    simp only [Bool.false_eq_true, if_false, if_true] at hsi
    subst hsi
    go_enter Tryd.func11, Tryd.ntmps11
    go_wp2_with fail
    refine (HCO.out _ HS.out).mono ?_
    rintro e w1 ⟨rfl, hw1⟩
    subst hw1
    go_wp2_with fail
    refine (HRO.out _).mono ?_
    rintro e w2 ⟨rfl, hb2⟩
    have hbel2 := bl2 hB hb2
    have HBY2 := Hid.mk (isBytes_below HBY.out hb2)
    have HK2 := Hid.mk (HK.out.kept hb2)
    have k5 := HK2.out.c5
    clear hB hb2 HBY HK HCO HRO HS
    go_wp2_with fail
    refine (HOF.out _ HBY2.out).mono ?_
    rintro e w3 ⟨rfl, hb3⟩
    have hbel3 := bl2 hbel2 hb3
    have HK3 := Hid.mk (HK2.out.kept hb3)
    clear hbel2 hb3 HBY2 HK2 k5 HOF
    have r0 := fun d os => (HK3.out.regrown d os).c0
    have r1 := fun d os => (HK3.out.regrown d os).c1
    have r2 := fun d os => (HK3.out.regrown d os).c2
    have r3 := fun d os => (HK3.out.regrown d os).c3
    have r4 := fun d os => (HK3.out.regrown d os).c4
    have r5 := fun d os => (HK3.out.regrown d os).c5
    go_wp2_with fail
    refine wp_region_quiet_below (by kernel_rfl) (by kernel_rfl) ?_
    set_option maxRecDepth 100000 in
    repeat (go_big_quiet_step (first
      | (go_at_call 19; exact Calls.regrown_of (HNM.out _))
      | (go_at_call 25; exact Calls.regrown_of (HFM.out _))))
    refine wpQuiet_nil ?_
    intro _ hw'
    obtain ⟨⟨dq, osq⟩, hw''⟩ := hw'
    subst hw''
    have hbq := bl2 hbel3 (below_regrown w3 dq osq)
    clear r0 r1 r2 r3 r4 r5 hbel3
    go_wp2_with fail
    go_ret
    obtain ⟨l1, l2, l3, l4⟩ := HL.out
    exact ⟨ret_str1 (by rw [HFIN.out, ba_cat, ba_cat, ba_cat, ba_cat, l1, l2, l3, l4]), hbq⟩
end Bw
end Go.Proofs.YtacfkdgepknpkalDoor

/- What frame.Bits answers of any frame. -/
namespace Go.Proofs.YtacfkdgepknpkalDoor
open Go.ChangeShapes Go.WideShapes Go.ChangeAt Go.RowKit
namespace Bw
open Bm Cm

def bitsA (f : Fr) : Value := if frE f = 0 then .tuple #[.string ⟨(bitsL f).toArray⟩, .int .i64 0] else .tuple #[.string ⟨#[]⟩, .int .i64 (frE f)]
set_option maxHeartbeats 4000000 in
theorem frBits_bad (f : Fr) (a : Option Addr) (len cap : Nat) (w : World) (hS : SizesAt w) (hl : len ≤ maxLen) (hd : f.dt.length = len) (hE : frE f ≠ 0) :
    Calls Tryd.prog 5 #[frameV f.id f.lo f.fa f.re f.sz a len cap] w fun e w' => e = .returned (.tuple #[.string ⟨#[]⟩, .int .i64 (frE f)]) ∧ Below w.heap.size w w' := by
  have hB := below_box w f.id f.lo f.fa f.re f.sz a len cap
  have hck := frCheck_any f.id f.lo f.fa f.re f.sz a len cap _ (hS.kept hB) hl
  have hE' : frEn f.id f.lo f.fa f.re f.sz len = frE f := by unfold frE; rw [hd]
  rw [hE'] at hck
  unfold frameC at hB hck
  unfold frameV at hck ⊢
  have HCK := Hid.mk hck
  have hne : (frE f != 0) = true := by simpa using hE
  clear hS hl hd hck hE' hE
  generalize frE f = ce at *
  go_enter Tryd.func5, Tryd.ntmps5
  go_wp2_with fail
  refine HCK.out.mono ?_
  rintro e w1 ⟨rfl, hb1⟩
  have hbel1 := bl2 hB hb1
  clear hB hb1
  go_wp2_with fail
  go_ret2
  exact ⟨rfl, hbel1⟩
set_option maxHeartbeats 8000000 in
theorem frBits_ok (f : Fr) (a : Option Addr) (len cap : Nat) (w : World) (hS : SizesAt w) (hR : RulesAt w) (hr : IsBytes w a len cap f.dt) (hE : frE f = 0) :
    Calls Tryd.prog 5 #[frameV f.id f.lo f.fa f.re f.sz a len cap] w fun e w' => e = .returned (.tuple #[.string ⟨(bitsL f).toArray⟩, .int .i64 0]) ∧ Below w.heap.size w w' := by
  obtain ⟨e1, e2, e3, e4, e5, e6, e7, e8, e9⟩ := frE_ok hE
  have hdl : f.dt.length = len := hr.1
  have hB := below_box w f.id f.lo f.fa f.re f.sz a len cap
  have hK := FrAt.box w f.id f.lo f.fa f.re f.sz a len cap
  have hck := frCheck_any f.id f.lo f.fa f.re f.sz a len cap _ (hS.kept hB) (by unfold maxLen; omega)
  have hE' : frEn f.id f.lo f.fa f.re f.sz len = 0 := by rw [← hE]; unfold frE; rw [hdl]
  rw [hE'] at hck
  have hhd := fun W hW hBy => head_any f a len cap W hW hE hBy
  have hHr := headL_row f
  have hHn := (headL_le f e7).2
  have hH1 := (headL_le f e7).1
  have hHl := mk_list (headL f)
  generalize ByteArray.mk (headL f).toArray = H at *
  have hHs : H.size = (headL f).length := ba_size hHl
  have hHc : checkE H.data.toList = 0 := checkE_row (by rw [hHl]; exact hHr) (by simp; omega)
  unfold frameC at hB hK hck
  unfold frameV at hhd hck ⊢
  have HCK := Hid.mk hck
  have H1 := Hid.mk hhd
  have HK := Hid.mk hK
  have HS := Hid.mk (hS.kept hB)
  have HR := Hid.mk (hR.kept hB)
  have HB := Hid.mk (isBytes_below hr hB)
  have hHz : H.size ≤ 553 := by omega
  have hlen : len ≤ 64 := by omega
  cases hfa : f.fa
  · have hbl : bitsL f = putF (headL f ++ sumL 0 (headL f)) ++ onesL := by unfold bitsL; rw [hfa]; rfl
    have hso := fun W hW => sum_ok 0 H W hW hHc (by omega)
    rw [hHl] at hso
    have hSl := mk_list (sumL 0 (headL f))
    have hSn := sumL_len 0 (headL f)
    have hSr := sumL_row 0 (headL f)
    generalize sumL 0 (headL f) = sl at *
    generalize ByteArray.mk sl.toArray = S at *
    have hk0 : kS 0 = 15 := rfl
    have hSz : S.size ≤ 15 := by rw [ba_size hSl, hSn, hk0]; exact Nat.le_refl _
    obtain ⟨Y, hY⟩ : ∃ Y, Y = H ++ S := ⟨_, rfl⟩
    have hYl : Y.data.toList = headL f ++ sl := by rw [hY, ba_cat, hHl, hSl]
    have hYs : Y.size = (headL f).length + sl.length := by rw [ba_size hYl, List.length_append]
    have hpu := fun W => put_ok Y W (checkE_row (by rw [hYl, rowB_append, hHr, hSr]; rfl) (by simp; omega))
    rw [hYl] at hpu
    have hPl := mk_list (putF (headL f ++ sl))
    have hPn := putF_len2 (headL f ++ sl)
    rw [List.length_append] at hPn
    simp only [hY] at hpu
    generalize putF (headL f ++ sl) = pl at *
    generalize ByteArray.mk pl.toArray = P at *
    have hPz : P.size ≤ 1200 := by rw [ba_size hPl]; omega
    have H2 := Hid.mk hso
    have H3 := Hid.mk hpu
    have HPL := Hid.mk hPl
    have HBL := Hid.mk hbl
    rw [hfa] at H1 HK hB HCK HS HR HB
    clear hhd hHr hHn hH1 hHl hHs hK hS hR hr hbl hso hSl hSn hSr hk0 hYl hYs hpu hPl hPn e1 e2 e3 e4 e5 e6 e7 e8 e9 hE hdl hY hHc hck hE'
    go_enter Tryd.func5, Tryd.ntmps5
    go_wp2_with fail
    refine HCK.out.mono ?_
    rintro e w0 ⟨rfl, hb0⟩
    have hbel0 := bl2 hB hb0
    obtain ⟨k0, k1, k2, k3, k4, k5⟩ := HK.out.kept hb0
    have HK0 := Hid.mk (HK.out.kept hb0)
    have HS0 := Hid.mk (HS.out.kept hb0)
    have HR0 := Hid.mk (HR.out.kept hb0)
    have HB0 := Hid.mk (isBytes_below HB.out hb0)
    clear hB hb0 HK HS HR HB HCK
    go_wp2_with fail
    refine (H1.out _ HS0.out HB0.out).mono ?_
    rintro e w1 ⟨rfl, hb1⟩
    have hbel1 := bl2 hbel0 hb1
    have j2 := (HK0.out.kept hb1).c2
    have HR1 := Hid.mk (HR0.out.kept hb1)
    clear hb1 hbel0 k0 k1 k2 k3 k4 k5 HK0 HS0 HR0 HB0 H1
    go_wp2_with fail
    refine (H2.out _ HR1.out).mono ?_
    rintro e w2 ⟨rfl, hb2⟩
    have hbel2 := bl2 hbel1 hb2
    clear hb2 hbel1 j2
    go_wp2_with fail
    refine (H3.out _).mono ?_
    rintro e w3 ⟨rfl, hb3⟩
    have hbel3 := bl2 hbel2 hb3
    clear hb3 hbel2
    go_wp2_with fail
    go_ret2
    exact ⟨ret_str2 (by rw [HBL.out, ba_cat, HPL.out]; rfl), hbel3⟩
  · have hbl : bitsL f = putF (headL f) ++ fastL (headL f) (putF (headL f)) f.dt.length ++ onesL := by unfold bitsL; rw [hfa]; rfl
    rw [fastL_fixed, hdl] at hbl
    have hpu := fun W => put_ok H W hHc
    rw [hHl] at hpu
    have hPl := mk_list (putF (headL f))
    have hPr := putF_row (headL f) hHr
    obtain ⟨kk, hk1, hk2⟩ := putF_most (headL f) hHr
    generalize hpp : putF (headL f) = pl at *
    generalize ByteArray.mk pl.toArray = P at *
    have hPs : P.size = pl.length := ba_size hPl
    have hPz : P.size ≤ 900 := by omega
    have hfe := fun W hW => fixedPart_any P (pl.length - (headL f).length) len W hW (by omega) (by omega) (by rw [hPl]; exact hPr) (by omega)
    rw [hPl] at hfe
    have hq : ((pl.length - (headL f).length : Nat) : Int) = (P.size : Int) - (H.size : Int) := by omega
    simp only [hq] at hfe
    have hFl := mk_list (fixedL pl (pl.length - (headL f).length) len)
    have hFn : (fixedL pl (pl.length - (headL f).length) len).length ≤ 32 := by rw [fixedL_len]; split <;> omega
    generalize fixedL pl (pl.length - (headL f).length) len = fl at *
    generalize ByteArray.mk fl.toArray = F at *
    have hFz : F.size ≤ 32 := by rw [ba_size hFl]; exact hFn
    have hHP : (H.size : Int) ≤ (P.size : Int) := by omega
    have H2 := Hid.mk hpu
    have H3 := Hid.mk hfe
    have HPL := Hid.mk hPl
    have HFL := Hid.mk hFl
    have HBL := Hid.mk hbl
    rw [hfa] at H1 HK hB HCK HS HR HB
    clear hhd hHr hHn hH1 hHl hHs hK hS hR hr hbl hpu hPl hPr hk1 hk2 hpp hPs hfe hFl hFn e1 e2 e3 e4 e5 e6 e7 e8 e9 hE hdl hHc hck hE' hq
    go_enter Tryd.func5, Tryd.ntmps5
    go_wp2_with fail
    refine HCK.out.mono ?_
    rintro e w0 ⟨rfl, hb0⟩
    have hbel0 := bl2 hB hb0
    obtain ⟨k0, k1, k2, k3, k4, k5⟩ := HK.out.kept hb0
    have HK0 := Hid.mk (HK.out.kept hb0)
    have HS0 := Hid.mk (HS.out.kept hb0)
    have HR0 := Hid.mk (HR.out.kept hb0)
    have HB0 := Hid.mk (isBytes_below HB.out hb0)
    clear hB hb0 HK HS HR HB HCK
    go_wp2_with fail
    refine (H1.out _ HS0.out HB0.out).mono ?_
    rintro e w1 ⟨rfl, hb1⟩
    have hbel1 := bl2 hbel0 hb1
    have j2 := (HK0.out.kept hb1).c2
    have HK1 := Hid.mk (HK0.out.kept hb1)
    have HR1 := Hid.mk (HR0.out.kept hb1)
    clear hb1 hbel0 k0 k1 k2 k3 k4 k5 HK0 HS0 HR0 HB0 H1
    go_wp2_with fail
    refine (H2.out _).mono ?_
    rintro e w2 ⟨rfl, hb2⟩
    have hbel2 := bl2 hbel1 hb2
    have m5 := (HK1.out.kept hb2).c5
    have HR2 := Hid.mk (HR1.out.kept hb2)
    clear hb2 hbel1 j2 HK1 HR1
    go_wp2_with fail
    refine (H3.out _ HR2.out).mono ?_
    rintro e w3 ⟨rfl, hb3⟩
    have hbel3 := bl2 hbel2 hb3
    clear hb3 hbel2 m5
    go_wp2_with fail
    go_ret2
    exact ⟨ret_str2 (by rw [HBL.out, ba_cat, ba_cat, HPL.out, HFL.out]; rfl), hbel3⟩
theorem frBits_any (f : Fr) (a : Option Addr) (len cap : Nat) (w : World) (hS : SizesAt w) (hR : RulesAt w) (hr : IsBytes w a len cap f.dt) :
    Calls Tryd.prog 5 #[frameV f.id f.lo f.fa f.re f.sz a len cap] w fun e w' => e = .returned (bitsA f) ∧ Below w.heap.size w w' := by
  unfold bitsA
  by_cases hE : frE f = 0
  · rw [if_pos hE]; exact frBits_ok f a len cap w hS hR hr hE
  · rw [if_neg hE]; exact frBits_bad f a len cap w hS (by have := hr.2.1; have := hr.2.2.1; omega) hr.1 hE
end Bw
end Go.Proofs.YtacfkdgepknpkalDoor

/- What is sent is read by frame.Read, whatever follows. -/
namespace Go.Proofs.YtacfkdgepknpkalDoor
open Go.ChangeShapes Go.WideShapes Go.ChangeAt Go.RowKit
namespace Bw
open Bm Cm

theorem fixR_row (l : List UInt8) (a : UInt8) (hl : rowB l = true) : ∀ i, i ≤ l.length → rowB (fixR l a i) = true
  | 0, _ => rfl
  | i + 1, h => by
    have ih := fixR_row l a hl i (by omega)
    have hb : bit (l.getD i 0) = true := by
      have hi : i < l.length := by omega
      rw [List.getD, List.getElem?_eq_getElem hi, Option.getD_some]
      exact rowB_all.1 hl _ (List.getElem_mem hi)
    rw [fixR, rowB_snoc, hb, Bool.and_true]
    split
    · rw [rowB_snoc, ih, otb_bit]; rfl
    · exact ih
theorem fixedL_row (p : List UInt8) (q n : Nat) : rowB (fixedL p q n) = true := by
  unfold fixedL fixL
  exact fixR_row _ _ (by rw [rowB_append, (gray_row _ (Nat.mod_lt _ (by omega))).1, sumL_row]; rfl) _ (Nat.le_refl _)
theorem preL_row (f : Fr) : rowB (preL f) = true := by
  unfold preL
  split
  · rw [rowB_append, putF_row _ (headL_row f), fastL_fixed, fixedL_row]; rfl
  · exact putF_row _ (by rw [rowB_append, headL_row, sumL_row]; rfl)
theorem preL_len (f : Fr) (hE : frE f = 0) : 1 ≤ (preL f).length ∧ (preL f).length ≤ 750 := by
  obtain ⟨-, -, -, -, -, -, e7, e8, -⟩ := frE_ok hE
  obtain ⟨h1, h2⟩ := headL_le f e7
  unfold preL
  split
  · obtain ⟨k, hk1, hk2⟩ := putF_most (headL f) (headL_row f)
    rw [List.length_append, fastL_fixed, fixedL_len]
    split <;> omega
  · obtain ⟨k, hk1, hk2⟩ := putF_most (headL f ++ sumL 0 (headL f)) (by rw [rowB_append, headL_row, sumL_row]; rfl)
    have hs : (sumL 0 (headL f)).length = 15 := sumL_len 0 _
    rw [List.length_append, hs] at hk1 hk2
    omega
theorem bitsL_len (f : Fr) : (bitsL f).length = (preL f).length + 10 := by rw [bitsL_pre, List.length_append]; rfl
theorem bitsL_row (f : Fr) : rowB (bitsL f) = true := by rw [bitsL_pre, rowB_append, preL_row]; rfl

theorem readBack_any (f : Fr) (e rest : List UInt8) (T : ByteArray) (w : World) (hS : SizesAt w) (hR : RulesAt w) (hE : frE f = 0) (he : e = onesL ∨ e = heardL) (hT : T.data.toList = preL f ++ (e ++ rest)) (hr : rowB rest = true) (hn : T.size ≤ 1000) :
    Calls Tryd.prog 15 #[.string T] w fun x w' => ∃ a len cap, x = .returned (.tuple #[frameV f.id f.lo f.fa f.re f.sz a len cap, .int .i64 ((preL f).length + 10 : Nat), .int .i64 0]) ∧ IsBytes w' a len cap f.dt ∧ Below w.heap.size w w' := by
  have her : rowB e = true := by rcases he with rfl | rfl <;> rfl
  have hrow : rowB T.data.toList = true := by rw [hT, rowB_append, rowB_append, preL_row, her, hr]; rfl
  have hl : T.data.toList.length = T.size := by simp
  have hc := checkE_row hrow (by omega)
  obtain ⟨b1, b2, b3⟩ := read_back f e rest hE he
  rw [← hT] at b1 b2 b3
  refine (read_ok T w hS hR hc).mono ?_
  rintro x w' ⟨-, h2, h3⟩
  obtain ⟨a, len, cap, hx, hby⟩ := h2 b1
  rw [b2, b3] at hx
  rw [b3] at hby
  exact ⟨a, len, cap, hx, hby, h3⟩
end Bw
end Go.Proofs.YtacfkdgepknpkalDoor

/- What slices.Equal answers of two slices that hold the same bytes: true. -/
namespace Go.Proofs.YtacfkdgepknpkalDoor
open Go.ChangeShapes Go.WideShapes Go.ChangeAt Go.RowKit
namespace Bw
open Bm

def HasBytes (w : World) (a : Option Addr) (n : Nat) (l : List UInt8) : Prop :=
  (a = none → n = 0) ∧ ∀ x, a = some x → ∀ i, i < n → w.cell? (x.add i) = some (.int .u8 (l.getD i 0).toNat)

set_option maxHeartbeats 1000000 in
theorem equalB_true (w : World) (a b : Option Addr) (n c d : Nat) (l : List UInt8) (hn : n ≤ maxLen) (ha : HasBytes w a n l) (hb : HasBytes w b n l) :
    Calls Tryd.prog 39 #[.slice a n c, .slice b n d] w fun e w' => e = .returned (.bool true) ∧ Below w.heap.size w w' := by
  have HA := Hid.mk ha
  have HB := Hid.mk hb
  unfold maxLen at hn
  clear ha hb
  go_enter Tryd.func39, Tryd.ntmps39
  go_wp2
  go_loopw [13] (fun i w' => ∃ k : Nat, k ≤ n ∧ i = .int .i64 k ∧ ∃ m, w' = w.drewN m) (fun i _ => n - (intOf i).toNat)
  case atStart => exact ⟨0, Nat.zero_le _, rfl, 0, rfl⟩
  case round =>
    obtain ⟨k, hk, rfl, m, rfl⟩ := hrel
    by_cases hlt : k < n
    · cases a with
      | none => exact absurd (HA.out.1 rfl) (by omega)
      | some x =>
        cases b with
        | none => exact absurd (HB.out.1 rfl) (by omega)
        | some y =>
          have g1 := HA.out.2 x rfl k hlt
          have g2 := HB.out.2 y rfl k hlt
          have hlt' : (k : Int) < (n : Int) := by omega
          go_wp2
          go_quiet (fail)
          go_wp2
          go_roundw
          case rel => exact ⟨k + 1, by omega, by go_num, _, rfl⟩
          case measure => simp [intOf]; omega
    · go_wp2
      go_ret
      exact ⟨rfl, ⟨rfl, rfl, rfl, Nat.le_refl _, fun _ _ => rfl⟩⟩
end Bw
end Go.Proofs.YtacfkdgepknpkalDoor

/- What the document's own SameFrame answers of frames that are alike. -/
namespace Go.Proofs.YtacfkdgepknpkalDoor
open Go.ChangeShapes Go.WideShapes Go.ChangeAt Go.RowKit
namespace Bw
open Bm Cm

set_option maxHeartbeats 8000000 in
theorem sameFrame_true (f : Fr) (a1 a2 : Option Addr) (n1 c1 n2 c2 : Nat) (w : World) (h1 : IsBytes w a1 n1 c1 f.dt) (h2 : IsBytes w a2 n2 c2 f.dt) :
    Calls Tryd.prog 16 #[frameV f.id f.lo f.fa f.re f.sz a1 n1 c1, frameV f.id f.lo f.fa f.re f.sz a2 n2 c2] w fun e w' => e = .returned (.bool true) ∧ Below w.heap.size w w' := by
  obtain ⟨id, lo, fa, re, sz, dt⟩ := f
  simp only at h1 h2 ⊢
  have hB1 := below_box w id lo fa re sz a1 n1 c1
  have hB2 := below_box (w.alloc (frameC id lo fa re sz a1 n1 c1)) id lo fa re sz a2 n2 c2
  have hB := bl2 hB1 hB2
  have hn : n1 = n2 := h1.1.symm.trans h2.1
  subst hn
  have hmx : n1 ≤ maxLen := by have := h1.2.1; have := h1.2.2.1; omega
  have hY1 := isBytes_below h1 hB
  have hY2 := isBytes_below h2 hB
  have hbe := equalB_true _ a1 a2 n1 c1 c2 dt hmx ⟨hY1.2.2.2.1, hY1.2.2.2.2⟩ ⟨hY2.2.2.2.1, hY2.2.2.2.2⟩
  have HBE := Hid.mk hbe
  have HB := Hid.mk hB
  unfold frameC at HBE HB
  unfold frameV
  clear h1 h2 hB1 hB2 hB hbe hY1 hY2 hmx
  go_enter Tryd.func16, Tryd.ntmps16
  go_wp2_with fail
  refine HBE.out.mono ?_
  rintro e w1 ⟨rfl, hb1⟩
  have hbel := bl2 HB.out hb1
  clear hb1
  go_wp2_with fail
  go_ret
  exact ⟨rfl, hbel⟩
end Bw
end Go.Proofs.YtacfkdgepknpkalDoor

/- Contracts of Go's library that the kit proves once, laid at this program: no walk, one application each. -/
namespace Go.Proofs
open Go.Shelf
def Tryd.lays99_ren : Go.Shelf.Ren := ⟨fun | 99 => 7 | 206 => 17 | n => n, fun | 9 => 9 | 4 => 4 | 3 => 3 | n => n, fun | n => n⟩
theorem Tryd.lays99 : Go.Proofs.Lays.n99 Tryd.prog Tryd.lays99_ren := {
  mixed := by kernel_rfl
  f99 := Tryd.func7.trans (congrArg some (by kernel_rfl))
  f206 := Tryd.func17.trans (congrArg some (by kernel_rfl))
  t3 := Tryd.underlying3
  a3 := Tryd.isAgg3
  z3 := Tryd.sizeOf3
  v3 := Tryd.zeroValue3
  t4 := Tryd.underlying4
  a4 := Tryd.isAgg4
  z4 := Tryd.sizeOf4
  v4 := Tryd.zeroValue4
  t9 := Tryd.underlying9
  a9 := Tryd.isAgg9
  z9 := Tryd.sizeOf9
  v9 := Tryd.zeroValue9 }
open Go.RowKit Go.Lib in
theorem Tryd.strings_HasPrefix (s p : ByteArray) (w : World) :
    Calls Tryd.prog 7 #[.string s, .string p] w fun e w' => e = .returned (.bool (Lib.hasPrefix s.data.toList p.data.toList)) ∧ w' = w := Any.strings_HasPrefix Tryd.lays99 s p w
end Go.Proofs

/- The closed fact that each law of frames asks for: a frame, there and back. -/
namespace Go.Proofs.YtacfkdgepknpkalDoor
open Go.ChangeShapes Go.WideShapes Go.ChangeAt Go.RowKit
namespace Bw
open Bm Cm

def fr5 : Fr := ⟨5, false, false, false, 0, [1, 255]⟩
theorem fr5_ok : frE fr5 = 0 := by decide +kernel
theorem fr5_pre : Lib.hasPrefix (bitsL fr5) [48, 48, 48, 48, 48, 49, 48, 48, 48, 48, 49, 48, 49] = true := by decide +kernel
def d5C : Obj := .cells #[.int .u8 1, .int .u8 255] 5
theorem d5_bytes (w : World) : IsBytes (w.alloc d5C) (some ⟨w.heap.size, 0, none⟩) 2 2 [1, 255] := by
  refine ⟨rfl, Nat.le_refl _, by unfold maxLen; decide, (fun h => by cases h), ?_⟩
  intro x hx i hi
  cases hx
  have e : (Addr.add ⟨w.heap.size, 0, none⟩ i) = ⟨w.heap.size, i, none⟩ := by simp [Addr.add]; exact fun h => h.symm
  rw [e, cell_of_row _ _ i _ _ _ (heap_alloc_new w d5C)]
  match i, hi with
  | 0, _ => rfl
  | 1, _ => rfl

set_option maxHeartbeats 8000000 in
theorem framed_any (w : World) (hS : SizesAt w) (hR : RulesAt w) :
    Calls Tryd.prog 6 #[] w fun e w' => e = .returned (.bool true) ∧ Below w.heap.size w w' := by
  have hB0 : Below w.heap.size w (w.alloc d5C) := (Below.refl _ _).alloc (Nat.le_refl _) _
  have hB1 := bl2 hB0 (below_box (w.alloc d5C) 5 false false false 0 (some ⟨w.heap.size, 0, none⟩) 2 2)
  have hK := FrAt.box (w.alloc d5C) 5 false false false 0 (some ⟨w.heap.size, 0, none⟩) 2 2
  have hY := isBytes_below (d5_bytes w) (below_box (w.alloc d5C) 5 false false false 0 (some ⟨w.heap.size, 0, none⟩) 2 2)
  have a1 := frBits_ok fr5 (some ⟨w.heap.size, 0, none⟩) 2 2 _ (hS.kept hB1) (hR.kept hB1) hY fr5_ok
  have hsz : (w.alloc d5C).heap.size = w.heap.size + 1 := by simp
  rw [hsz] at hK
  have hbl := bitsL_len fr5
  have hpl := preL_len fr5 fr5_ok
  have hBl := mk_list (bitsL fr5)
  have hpre := fr5_pre
  have hT : ∀ X : ByteArray, X.data.toList = bitsL fr5 → (X ++ ⟨#[49]⟩).data.toList = preL fr5 ++ (onesL ++ [49]) := by
    intro X hX
    rw [ba_cat, hX, bitsL_pre, List.append_assoc]
  have a2 := fun X W hX hSW hRW hn => readBack_any fr5 onesL [49] (X ++ ⟨#[49]⟩) W hSW hRW fr5_ok (.inl rfl) (hT X hX) (by decide) hn
  have a3 := fun W a len cap h1 h2 => sameFrame_true fr5 (some ⟨w.heap.size, 0, none⟩) a 2 2 len cap W h1 h2
  have a4 := fun X W => Tryd.strings_HasPrefix X ⟨#[48, 48, 48, 48, 48, 49, 48, 48, 48, 48, 49, 48, 49]⟩ W
  generalize ByteArray.mk (bitsL fr5).toArray = X at *
  have hXs : X.size = (preL fr5).length + 10 := by rw [ba_size hBl, hbl]
  have a4' := a4 X
  rw [hBl, hpre] at a4'
  have a2' := fun W hSW hRW => a2 X W hBl hSW hRW (by show (X ++ ⟨#[49]⟩).size ≤ 1000; rw [ByteArray.size_append]; show X.size + 1 ≤ 1000; omega)
  rw [← hXs] at a2'
  have hXm : X.size ≤ 760 := by omega
  have HA1 := Hid.mk a1
  have HA2 := Hid.mk a2'
  have HA3 := Hid.mk a3
  have HA4 := Hid.mk a4'
  have HK := Hid.mk hK
  have HY := Hid.mk hY
  have HB := Hid.mk hB1
  have HS := Hid.mk hS
  have HR := Hid.mk hR
  unfold frameC d5C at HA1 HK HY HB
  simp only [fr5] at HA1 HA2 HA3 HY
  unfold frameV at HA1 HA2 HA3
  clear a1 a2 a2' a3 a4 a4' hK hY hB0 hB1 hS hR hbl hpl hBl hpre hT hXs hsz
  go_enter Tryd.func6, Tryd.ntmps6
  go_wp2_with fail
  refine HA1.out.mono ?_
  rintro e w1 ⟨rfl, hb1⟩
  have HB1 := Hid.mk (bl2 HB.out hb1)
  have HK1 := Hid.mk (HK.out.kept hb1)
  have HY1 := Hid.mk (isBytes_below HY.out hb1)
  clear hb1 HB HK HY HA1
  go_wp2_with fail
  refine (HA2.out _ (HS.out.kept HB1.out) (HR.out.kept HB1.out)).mono ?_
  rintro e w2 ⟨a, len, cap, rfl, hby, hb2⟩
  have hb3 : Below w2.heap.size w2 (w2.alloc (.cells #[.int .i64 5, .bool false, .bool false, .bool false, .int .i64 0, .slice a len cap] 24)) := (Below.refl _ _).alloc (Nat.le_refl _) _
  have hb23 := bl2 hb2 hb3
  have HB3 := Hid.mk (bl2 HB1.out hb23)
  obtain ⟨k0, k1, k2, k3, k4, k5⟩ := HK1.out.kept hb23
  have HY3 := Hid.mk (isBytes_below HY1.out hb23)
  have HZ3 := Hid.mk (isBytes_below hby hb3)
  clear hb2 hby hb3 hb23 HB1 HK1 HY1 HA2
  go_wp2_with fail
  refine (HA3.out _ _ _ _ HY3.out HZ3.out).mono ?_
  rintro e w4 ⟨rfl, hb4⟩
  have HB4 := Hid.mk (bl2 HB3.out hb4)
  clear hb4 HB3 HY3 HZ3 HA3 k0 k1 k2 k3 k4 k5
  go_wp2_with fail
  refine (HA4.out _).mono ?_
  rintro e w5 ⟨rfl, hw5⟩
  subst hw5
  go_wp2_with fail
  go_ret
  exact ⟨rfl, HB4.out⟩
end Bw
end Go.Proofs.YtacfkdgepknpkalDoor

/- What frame.Name answers. -/
namespace Go.Proofs.YtacfkdgepknpkalDoor
open Go.ChangeShapes Go.WideShapes Go.ChangeAt Go.RowKit
namespace Bw
open Bm Cm

def nameA (f : Fr) : Value := if frE f = 0 then .tuple #[.string ⟨(nameL f).toArray⟩, .int .i64 0] else .tuple #[.string ⟨#[]⟩, .int .i64 (frE f)]
set_option maxHeartbeats 4000000 in
theorem frName_any (f : Fr) (a : Option Addr) (len cap : Nat) (w : World) (hS : SizesAt w) (hl : len ≤ maxLen) (hd : f.dt.length = len) :
    Calls Tryd.prog 9 #[frameV f.id f.lo f.fa f.re f.sz a len cap] w fun e w' => e = .returned (nameA f) ∧ Below w.heap.size w w' := by
  have hB := below_box w f.id f.lo f.fa f.re f.sz a len cap
  have hK := FrAt.box w f.id f.lo f.fa f.re f.sz a len cap
  have hck := frCheck_any f.id f.lo f.fa f.re f.sz a len cap _ (hS.kept hB) hl
  have hE : frEn f.id f.lo f.fa f.re f.sz len = frE f := by unfold frE; rw [hd]
  rw [hE] at hck
  have hnm := fun W h0 h1 => name_any f a len cap W h0 h1
  have hok := fun h => frE_ok (f := f) h
  unfold frameC at hB hK hck
  unfold frameV at hnm hck ⊢
  unfold nameA
  have HK := Hid.mk hK
  have HCK := Hid.mk hck
  have HNM := Hid.mk hnm
  have HOK := Hid.mk hok
  clear hS hl hd hK hck hnm hE hok
  by_cases hE : frE f = 0
  · rw [if_pos hE]
    obtain ⟨q1, q2, -⟩ := HOK.out hE
    have HQ1 := Hid.mk q1
    have HQ2 := Hid.mk q2
    rw [hE] at HCK
    clear hE q1 q2
    go_enter Tryd.func9, Tryd.ntmps9
    go_wp2_with fail
    refine HCK.out.mono ?_
    rintro e w1 ⟨rfl, hb1⟩
    have hbel1 := bl2 hB hb1
    obtain ⟨k0, k1, k2, k3, k4, k5⟩ := HK.out.kept hb1
    clear hB hb1
    go_wp2_with fail
    refine (HNM.out _ HQ1.out HQ2.out).mono ?_
    rintro e w2 ⟨rfl, hb2⟩
    have hbel2 := bl2 hbel1 hb2
    clear hbel1 hb2 k0 k1 k2 k3 k4 k5
    go_wp2_with fail
    go_ret2
    exact ⟨rfl, hbel2⟩
  · rw [if_neg hE]
    have hne : (frE f != 0) = true := by simpa using hE
    generalize frE f = ce at *
    go_enter Tryd.func9, Tryd.ntmps9
    go_wp2_with fail
    refine HCK.out.mono ?_
    rintro e w1 ⟨rfl, hb1⟩
    have hbel1 := bl2 hB hb1
    clear hB hb1
    go_wp2_with fail
    go_ret2
    exact ⟨rfl, hbel1⟩

end Bw
end Go.Proofs.YtacfkdgepknpkalDoor

/- The table of the numbers of bytes off the row's own condition. -/
namespace Go.Proofs.YtacfkdgepknpkalDoor
open Go.ChangeShapes Go.WideShapes Go.ChangeAt Go.RowKit
namespace Bw
theorem fsz_eq : Rows.laid_omnibus_frame_sizes (H := Unit) = Lib.tabData .i64 sizesI := by kernel_rfl
theorem fsz_t : Tryd.prog.underlying 63 = some (.array 16 3) := by kernel_rfl
theorem fsz_c : Tryd.prog.cellsOf 63 = 16 := by kernel_rfl
theorem fsz_c1 : Tryd.prog.cellsOf 3 = 1 := by kernel_rfl
theorem fsz_g : Tryd.prog.globalNamed "omnibus/frame.sizes" = some 1 := by kernel_rfl
theorem fsz_y : (Tryd.prog.globals[1]?).map (·.type) = some 63 := by kernel_rfl
theorem sizes_of {W : World} {laid : List (String × DataW Unit)} (hL : laidMet Tryd.prog laid W)
    (h1 : ("omnibus/frame.sizes", Rows.laid_omnibus_frame_sizes) ∈ laid) : SizesAt W := by
  obtain ⟨g, t, cs, fuel, p, hg, hty, hvar, hd⟩ := Lib.laidMet.reads hL h1
  obtain rfl := Option.some.inj (fsz_g.symm.trans hg)
  obtain rfl := Option.some.inj (fsz_y.symm.trans hty)
  rw [fsz_eq] at hd
  have hcs := Lib.cells_of_tab fsz_t Tryd.underlying3 fsz_c1 fsz_c hd
  intro i hi
  have := World.var?_cell hg hvar i
  rw [this, ← Array.getElem?_toList, hcs]
  rw [List.getElem?_map, List.getElem?_eq_getElem hi]
  simp [List.getD, hi]
end Bw
end Go.Proofs.YtacfkdgepknpkalDoor

/- Names of frames, one against the other: plain facts on lists; of no program. -/
namespace Go.Proofs.YtacfkdgepknpkalDoor
namespace Bw
open Bm Cm

theorem less_val : ∀ (a b : List UInt8), a.length = b.length → rowB a = true → rowB b = true → Op.bytesLess a b = decide (val a < val b)
  | [], [], _, _, _ => rfl
  | [], _ :: _, h, _, _ => by simp at h
  | _ :: _, [], h, _, _ => by simp at h
  | c :: a, d :: b, h, ha, hb => by
    have hl : a.length = b.length := by simpa using h
    have ha' : bit c = true ∧ rowB a = true := by simpa [rowB] using ha
    have hb' : bit d = true ∧ rowB b = true := by simpa [rowB] using hb
    have ih := less_val a b hl ha'.2 hb'.2
    have va := val_lt a ha'.2
    have vb := val_lt b hb'.2
    rw [hl] at va
    rw [val_cons, val_cons, hl]
    generalize 2 ^ b.length = P at *
    have hc : c = 48 ∨ c = 49 := by have := ha'.1; simp [bit] at this; exact this
    have hd : d = 48 ∨ d = 49 := by have := hb'.1; simp [bit] at this; exact this
    have d48 : dig 48 = 0 := rfl
    have d49 : dig 49 = 1 := rfl
    rcases hc with rfl | rfl <;> rcases hd with rfl | rfl
    · rw [d48]; simp [Op.bytesLess, ih]
    · rw [d48, d49]; simp [Op.bytesLess]; omega
    · rw [d48, d49]; simp [Op.bytesLess]; omega
    · rw [d49]; simp [Op.bytesLess, ih]
theorem val_inj {a b : List UInt8} (hl : a.length = b.length) (ha : rowB a = true) (hb : rowB b = true) (h : val a = val b) : a = b := by
  have e1 := bits_val a ha
  have e2 := bits_val b hb
  rw [h, hl] at e1
  exact e1.symm.trans e2
def reN (r : Bool) : Nat := if r then 1 else 0
theorem name_valS (f : Fr) (hE : frE f = 0) (hlo : f.lo = false) : val (nameL f) = f.id.toNat * 4 + reN f.re * 2 := by
  obtain ⟨e1, e2, -⟩ := frE_ok hE
  rw [hlo] at e2
  have hid : f.id.toNat < 2 ^ 11 := by simp [topI] at e2; omega
  unfold nameL
  rw [hlo]
  simp only [Bool.false_eq_true, if_false]
  rw [val_append, val_row _ _ hid]
  cases f.re <;> rfl
theorem name_valL (f : Fr) (hE : frE f = 0) (hlo : f.lo = true) : ∃ x y, f.id.toNat = x * 262144 + y ∧ y < 262144 ∧ val (nameL f) = ((x * 4 + 3) * 262144 + y) * 2 + reN f.re := by
  obtain ⟨e1, e2, -⟩ := frE_ok hE
  rw [hlo] at e2
  have hid : f.id.toNat < 2 ^ 29 := by simp [topI] at e2; omega
  have hd : ((bitsHead f.id.toNat 29 29).drop 11).length = 18 := by simp [bitsHead_length]
  have hv := val_row f.id.toNat 29 hid
  rw [← List.take_append_drop 11 (bitsHead f.id.toNat 29 29), val_append, hd] at hv
  have hy := val_lt _ (rowB_drop (bitsHead_row f.id.toNat 29 29) 11)
  rw [hd] at hy
  refine ⟨val ((bitsHead f.id.toNat 29 29).take 11), val ((bitsHead f.id.toNat 29 29).drop 11), hv.symm, hy, ?_⟩
  unfold nameL
  rw [hlo]
  simp only [if_true]
  rw [val_append, val_append, val_append, hd]
  have v2 : val [49, 49] = 3 := rfl
  have l2 : ([49, 49] : List UInt8).length = 2 := rfl
  have l1 : ([bitB f.re] : List UInt8).length = 1 := rfl
  rw [v2, l2, l1]
  have vr : val [bitB f.re] = reN f.re := by cases f.re <;> rfl
  rw [vr]
theorem names_same (f g : Fr) (hf : frE f = 0) (hg : frE g = 0) (hlo : f.lo = g.lo) : decide (nameL f = nameL g) = (decide (f.id = g.id) && decide (f.re = g.re)) := by
  have hl : (nameL f).length = (nameL g).length := by rw [nameL_len, nameL_len, hlo]
  obtain ⟨e1, -⟩ := frE_ok hf
  obtain ⟨e2, -⟩ := frE_ok hg
  rw [Bool.eq_iff_iff, decide_eq_true_iff, Bool.and_eq_true, decide_eq_true_iff, decide_eq_true_iff]
  have hre : ∀ a b : Bool, reN a = reN b ↔ a = b := by decide
  constructor
  · intro h
    have hv := congrArg val h
    cases hfl : f.lo
    · rw [name_valS f hf hfl, name_valS g hg (by rw [← hlo]; exact hfl)] at hv
      have r1 : reN f.re ≤ 1 := by unfold reN; split <;> omega
      have r2 : reN g.re ≤ 1 := by unfold reN; split <;> omega
      exact ⟨by omega, (hre _ _).1 (by omega)⟩
    · obtain ⟨x, y, h1, h2, h3⟩ := name_valL f hf hfl
      obtain ⟨x', y', h1', h2', h3'⟩ := name_valL g hg (by rw [← hlo]; exact hfl)
      rw [h3, h3'] at hv
      have r1 : reN f.re ≤ 1 := by unfold reN; split <;> omega
      have r2 : reN g.re ≤ 1 := by unfold reN; split <;> omega
      exact ⟨by omega, (hre _ _).1 (by omega)⟩
  · rintro ⟨h1, h2⟩
    unfold nameL
    rw [hlo, h1, h2]
theorem names_less (f g : Fr) (hf : frE f = 0) (hg : frE g = 0) (hlo : f.lo = g.lo) (h : g.id < f.id) : Op.bytesLess (nameL f) (nameL g) = false ∧ nameL f ≠ nameL g := by
  have hl : (nameL f).length = (nameL g).length := by rw [nameL_len, nameL_len, hlo]
  obtain ⟨e1, -⟩ := frE_ok hf
  obtain ⟨e2, -⟩ := frE_ok hg
  have hv : val (nameL g) < val (nameL f) := by
    have r1 : reN f.re ≤ 1 := by unfold reN; split <;> omega
    have r2 : reN g.re ≤ 1 := by unfold reN; split <;> omega
    cases hfl : f.lo
    · rw [name_valS f hf hfl, name_valS g hg (by rw [← hlo]; exact hfl)]
      omega
    · obtain ⟨x, y, h1, h2, h3⟩ := name_valL f hf hfl
      obtain ⟨x', y', h1', h2', h3'⟩ := name_valL g hg (by rw [← hlo]; exact hfl)
      rw [h3, h3']
      omega
  refine ⟨?_, fun e => by rw [e] at hv; omega⟩
  rw [less_val _ _ hl (nameL_row f) (nameL_row g)]
  simp; omega
theorem name_at (f : Fr) : (nameL f).getD 12 0 = if f.lo then 49 else 48 := by
  unfold nameL
  cases f.lo
  · simp only [Bool.false_eq_true, if_false]
    rw [List.getD, List.getElem?_append_right (by rw [bitsHead_length]; omega), bitsHead_length]
    rfl
  · simp only [if_true]
    rw [List.getD, List.append_assoc, List.append_assoc, List.getElem?_append_right (by simp [bitsHead_length]), List.length_take, bitsHead_length]
    rfl
theorem names_other (f g : Fr) (hlo : f.lo ≠ g.lo) : nameL f ≠ nameL g ∧ Lib.hasPrefix (nameL f) (nameL g) = false := by
  have hne : (nameL f).getD 12 0 ≠ (nameL g).getD 12 0 := by
    rw [name_at, name_at]
    cases hf : f.lo <;> cases hg : g.lo
    · exact absurd (by rw [hf, hg]) hlo
    · decide
    · decide
    · exact absurd (by rw [hf, hg]) hlo
  refine ⟨fun e => hne (by rw [e]), ?_⟩
  unfold Lib.hasPrefix
  rw [Bool.eq_false_iff]
  intro h
  rw [List.isPrefixOf_iff_prefix] at h
  obtain ⟨t, ht⟩ := h
  apply hne
  rw [← ht]
  have hl := nameL_len g
  rw [List.getD, List.getD, List.getElem?_append_left (by rw [hl]; split <;> omega)]
end Bw
end Go.Proofs.YtacfkdgepknpkalDoor

/- The table of kinds off the row's own condition: its cells hold the sizes, polynomials, starts and ends. -/
namespace Go.Proofs.YtacfkdgepknpkalDoor
open Go.ChangeShapes Go.WideShapes Go.ChangeAt Go.RowKit
namespace Bw
open Cm
def ruleZ (k : Nat) : List Int := [(kS k : Int), (kP k : Int), (kF k : Int), (kE k : Int)]
def rulesD : List (DataW Unit) := [0, 1, 2, 3, 4].map fun k => .agg ((ruleZ k).map fun z => .lit (.int .i64 z))
theorem five_at (k : Nat) (hk : k ≤ 4) : [0, 1, 2, 3, 4][k]? = some k := by
  match k, hk with
  | 0, _ => rfl
  | 1, _ => rfl
  | 2, _ => rfl
  | 3, _ => rfl
  | 4, _ => rfl
theorem rulesD_at (k : Nat) (hk : k ≤ 4) : rulesD[k]? = some (.agg ((ruleZ k).map fun z => .lit (.int .i64 z))) := by
  rw [rulesD, List.getElem?_map, five_at k hk]; rfl
theorem rules_eq : Rows.laid_omnibus_check_rules (H := Unit) = .agg rulesD := by kernel_rfl
theorem rules_t : Tryd.prog.underlying 48 = some (.array 5 47) := by kernel_rfl
theorem rule_c : Tryd.prog.cellsOf 47 = 4 := by kernel_rfl
theorem int_c : Tryd.prog.cellsOf 3 = 1 := by kernel_rfl
theorem rules_g : Tryd.prog.globalNamed "omnibus/check.rules" = some 0 := by kernel_rfl
theorem rules_y : (Tryd.prog.globals[0]?).map (·.type) = some 48 := by kernel_rfl
theorem rules_of {W : World} {laid : List (String × DataW Unit)} (hL : laidMet Tryd.prog laid W)
    (h1 : ("omnibus/check.rules", Rows.laid_omnibus_check_rules) ∈ laid) : RulesAt W := by
  obtain ⟨g, t, cs, fuel, p, hg, hty, hvar, hd⟩ := Lib.laidMet.reads hL h1
  obtain rfl := Option.some.inj (rules_g.symm.trans hg)
  obtain rfl := Option.some.inj (rules_y.symm.trans hty)
  rw [rules_eq] at hd
  intro k hk
  obtain ⟨fuel', d, q, hdk, htr⟩ := Lib.array_elem rules_t hd k (by omega)
  have hdd : d = .agg ((ruleZ k).map fun z => .lit (.int .i64 z)) := by
    have := rulesD_at k hk
    rw [hdk] at this
    exact Option.some.inj this
  subst hdd
  have hz := Lib.ints_of_struct Tryd.underlying47 (by
    intro i f h
    match i, h with
    | 0, h => cases h; exact ⟨Tryd.underlying3, rfl, int_c⟩
    | 1, h => cases h; exact ⟨Tryd.underlying3, rfl, int_c⟩
    | 2, h => cases h; exact ⟨Tryd.underlying3, rfl, int_c⟩
    | 3, h => cases h; exact ⟨Tryd.underlying3, rfl, int_c⟩
    | i + 4, h => simp at h) rule_c htr
  rw [rule_c] at hz
  have hc : ∀ j, j < 4 → cs[k * 4 + j]? = ((ruleZ k).map fun z => Value.int .i64 z)[j]? := by
    intro j hj
    rw [← hz, List.getElem?_take_of_lt hj, List.getElem?_drop, Array.getElem?_toList]
  have hv := fun j => World.var?_cell hg hvar j
  refine ⟨?_, ?_, ?_, ?_⟩
  · rw [hv, ← Nat.add_zero (k * 4), hc 0 (by omega)]; rfl
  · rw [hv, hc 1 (by omega)]; rfl
  · rw [hv, hc 2 (by omega)]; rfl
  · rw [hv, hc 3 (by omega)]; rfl
end Bw
end Go.Proofs.YtacfkdgepknpkalDoor
