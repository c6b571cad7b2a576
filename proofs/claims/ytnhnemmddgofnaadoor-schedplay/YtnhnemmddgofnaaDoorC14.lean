/- What frame.head answers of a right frame. -/
import Derived.Test.YtnhnemmddgofnaaDoorC9
import Derived.Test.YtnhnemmddgofnaaDoorC13
import Derived.Test.YtnhnemmddgofnaaDoorC2
import Derived.Test.YtnhnemmddgofnaaDoorC3
import Derived.BigQuiet
import Derived.Lib.QuietBelow
namespace Go.Proofs.YtnhnemmddgofnaaDoor
open Go.ChangeShapes Go.WideShapes Go.ChangeAt Go.RowKit
namespace Bw
open Bm Cm

set_option linter.unusedVariables false
theorem idx_neg (n : Nat) : idxI sizesI (n : Int) < 0 ↔ n ∉ sizesL := by
  constructor
  · intro h hm
    have := (idx_sizes hm).1
    omega
  · intro h
    rw [idxI_none]
    · omega
    · intro hm
      apply h
      unfold sizesI at hm
      obtain ⟨m, h1, h2⟩ := List.mem_map.1 hm
      have : m = n := by omega
      rw [← this]; exact h1
theorem below_dr {w a : World} (h : Below w.heap.size w a) (n : Nat) : Below w.heap.size w (a.drewN n) := bl2 h ⟨rfl, rfl, rfl, Nat.le_refl _, fun _ _ => rfl⟩
def frameC (id : Int) (lo fa re : Bool) (sz : Int) (a : Option Addr) (len cap : Nat) : Obj := .cells #[.int .i64 id, .bool lo, .bool fa, .bool re, .int .i64 sz, .slice a len cap] 80
/-- block g holds a frame -/
structure FrAt (w : World) (g : Nat) (id : Int) (lo fa re : Bool) (sz : Int) (a : Option Addr) (len cap : Nat) : Prop where
  c0 : w.cell? ⟨g, 0, none⟩ = some (.int .i64 id)
  c1 : w.cell? ⟨g, 1, none⟩ = some (.bool lo)
  c2 : w.cell? ⟨g, 2, none⟩ = some (.bool fa)
  c3 : w.cell? ⟨g, 3, none⟩ = some (.bool re)
  c4 : w.cell? ⟨g, 4, none⟩ = some (.int .i64 sz)
  c5 : w.cell? ⟨g, 5, none⟩ = some (.slice a len cap)
theorem FrAt.kept {w w' : World} {g : Nat} {id : Int} {lo fa re : Bool} {sz : Int} {a : Option Addr} {len cap : Nat} (h : FrAt w g id lo fa re sz a len cap) (hb : Below w.heap.size w w') : FrAt w' g id lo fa re sz a len cap :=
  ⟨cell_kept hb h.c0, cell_kept hb h.c1, cell_kept hb h.c2, cell_kept hb h.c3, cell_kept hb h.c4, cell_kept hb h.c5⟩
theorem FrAt.box (w : World) (id : Int) (lo fa re : Bool) (sz : Int) (a : Option Addr) (len cap : Nat) : FrAt (w.alloc (frameC id lo fa re sz a len cap)) w.heap.size id lo fa re sz a len cap := by
  have h := fun j => cell_of_row (w.alloc (frameC id lo fa re sz a len cap)) w.heap.size j _ _ _ (heap_alloc_new w _)
  exact ⟨h 0, h 1, h 2, h 3, h 4, h 5⟩
theorem below_box (w : World) (id : Int) (lo fa re : Bool) (sz : Int) (a : Option Addr) (len cap : Nat) : Below w.heap.size w (w.alloc (frameC id lo fa re sz a len cap)) := (Below.refl _ _).alloc (Nat.le_refl _) _

set_option maxHeartbeats 4000000 in
theorem ck_low (id : Int) (lo fa re : Bool) (sz : Int) (a : Option Addr) (len cap : Nat) (w : World) (h0 : id < 0) :
    Calls Tryd.prog 49 #[frameV id lo fa re sz a len cap] w fun e w' => e = .returned (.int .i64 3) ∧ Below w.heap.size w w' := by
  have hd0 : decide (id < 0) = true := by simpa using h0
  have hB := below_box w id lo fa re sz a len cap
  unfold frameC at hB
  unfold frameV
  go_enter Tryd.func49, Tryd.ntmps49
  go_wp2_with fail
  go_quiet (fail)
  go_wp2_with fail
  go_ret
  exact ⟨rfl, below_dr hB _⟩
set_option maxHeartbeats 4000000 in
theorem ck_high (id : Int) (lo fa re : Bool) (sz : Int) (a : Option Addr) (len cap : Nat) (w : World) (h0 : 0 ≤ id) (h2 : topI lo < id) :
    Calls Tryd.prog 49 #[frameV id lo fa re sz a len cap] w fun e w' => e = .returned (.int .i64 3) ∧ Below w.heap.size w w' := by
  have hd0 : decide (id < 0) = false := by simp; omega
  have hB := below_box w id lo fa re sz a len cap
  unfold frameC at hB
  unfold frameV
  go_enter Tryd.func49, Tryd.ntmps49
  go_wp2_with fail
  go_quiet ((go_at_call 56; refine Calls.quiet_of_same (maxID_any lo _)))
  go_wp2_with fail
  go_ret
  exact ⟨rfl, below_dr hB _⟩
set_option maxHeartbeats 4000000 in
theorem ck_remF (id : Int) (lo : Bool) (sz : Int) (a : Option Addr) (len cap : Nat) (w : World) (hS : SizesAt w) (hlb : (len : Int) ≤ 9223372036854775807) (h0 : 0 ≤ id) (h2 : id ≤ topI lo)  :
    Calls Tryd.prog 49 #[frameV id lo true true sz a len cap] w fun e w' => e = .returned (.int .i64 4) ∧ Below w.heap.size w w' := by
  have hd0 : decide (id < 0) = false := by simp; omega
  have hB := below_box w id lo true true sz a len cap
  have hK := FrAt.box w id lo true true sz a len cap
  unfold frameC at hB hK
  unfold frameV
  go_enter Tryd.func49, Tryd.ntmps49
  go_wp2_with fail
  go_quiet ((go_at_call 56; refine Calls.quiet_of_same (maxID_any lo _)))
  obtain ⟨W1, hW1⟩ : ∃ W1, W1 = (w.alloc (.cells #[.int .i64 id, .bool lo, .bool true, .bool true, .int .i64 sz, .slice a len cap] 80)).drewN nq := ⟨_, rfl⟩
  have hB1 : Below w.heap.size w W1 := by rw [hW1]; exact below_dr hB nq
  have hK1 : FrAt W1 w.heap.size id lo true true sz a len cap := by rw [hW1]; exact hK.kept ⟨rfl, rfl, rfl, Nat.le_refl _, fun _ _ => rfl⟩
  rw [← hW1]
  obtain ⟨k0, k1, k2, k3, k4, k5⟩ := hK1
  clear hB hK hW1
  clear hS hlb
  go_wp2_with fail
  go_ret
  exact ⟨rfl, hB1⟩
set_option maxHeartbeats 4000000 in
theorem ck_remD (id : Int) (lo : Bool) (sz : Int) (a : Option Addr) (len cap : Nat) (w : World) (hS : SizesAt w) (hlb : (len : Int) ≤ 9223372036854775807) (h0 : 0 ≤ id) (h2 : id ≤ topI lo) (h3 : (0 : Int) < (len : Int)) :
    Calls Tryd.prog 49 #[frameV id lo false true sz a len cap] w fun e w' => e = .returned (.int .i64 4) ∧ Below w.heap.size w w' := by
  have hd0 : decide (id < 0) = false := by simp; omega
  have hB := below_box w id lo false true sz a len cap
  have hK := FrAt.box w id lo false true sz a len cap
  unfold frameC at hB hK
  unfold frameV
  go_enter Tryd.func49, Tryd.ntmps49
  go_wp2_with fail
  go_quiet ((go_at_call 56; refine Calls.quiet_of_same (maxID_any lo _)))
  obtain ⟨W1, hW1⟩ : ∃ W1, W1 = (w.alloc (.cells #[.int .i64 id, .bool lo, .bool false, .bool true, .int .i64 sz, .slice a len cap] 80)).drewN nq := ⟨_, rfl⟩
  have hB1 : Below w.heap.size w W1 := by rw [hW1]; exact below_dr hB nq
  have hK1 : FrAt W1 w.heap.size id lo false true sz a len cap := by rw [hW1]; exact hK.kept ⟨rfl, rfl, rfl, Nat.le_refl _, fun _ _ => rfl⟩
  rw [← hW1]
  obtain ⟨k0, k1, k2, k3, k4, k5⟩ := hK1
  clear hB hK hW1
  clear hS
  go_wp2_with fail
  go_ret
  exact ⟨rfl, hB1⟩
set_option maxHeartbeats 4000000 in
theorem ck_szL (id : Int) (lo fa : Bool) (sz : Int) (a : Option Addr) (len cap : Nat) (w : World) (hS : SizesAt w) (hlb : (len : Int) ≤ 9223372036854775807) (h0 : 0 ≤ id) (h2 : id ≤ topI lo) (h3 : sz < 0) :
    Calls Tryd.prog 49 #[frameV id lo fa false sz a len cap] w fun e w' => e = .returned (.int .i64 3) ∧ Below w.heap.size w w' := by
  have hd0 : decide (id < 0) = false := by simp; omega
  have hB := below_box w id lo fa false sz a len cap
  have hK := FrAt.box w id lo fa false sz a len cap
  unfold frameC at hB hK
  unfold frameV
  go_enter Tryd.func49, Tryd.ntmps49
  go_wp2_with fail
  go_quiet ((go_at_call 56; refine Calls.quiet_of_same (maxID_any lo _)))
  obtain ⟨W1, hW1⟩ : ∃ W1, W1 = (w.alloc (.cells #[.int .i64 id, .bool lo, .bool fa, .bool false, .int .i64 sz, .slice a len cap] 80)).drewN nq := ⟨_, rfl⟩
  have hB1 : Below w.heap.size w W1 := by rw [hW1]; exact below_dr hB nq
  have hK1 : FrAt W1 w.heap.size id lo fa false sz a len cap := by rw [hW1]; exact hK.kept ⟨rfl, rfl, rfl, Nat.le_refl _, fun _ _ => rfl⟩
  rw [← hW1]
  obtain ⟨k0, k1, k2, k3, k4, k5⟩ := hK1
  clear hB hK hW1
  clear hS hlb
  go_wp2_with fail
  go_ret
  exact ⟨rfl, hB1⟩
set_option maxHeartbeats 4000000 in
theorem ck_szH (id : Int) (lo fa : Bool) (sz : Int) (a : Option Addr) (len cap : Nat) (w : World) (hS : SizesAt w) (hlb : (len : Int) ≤ 9223372036854775807) (h0 : 0 ≤ id) (h2 : id ≤ topI lo) (h3 : 8 < sz) :
    Calls Tryd.prog 49 #[frameV id lo fa false sz a len cap] w fun e w' => e = .returned (.int .i64 3) ∧ Below w.heap.size w w' := by
  have hd0 : decide (id < 0) = false := by simp; omega
  have hB := below_box w id lo fa false sz a len cap
  have hK := FrAt.box w id lo fa false sz a len cap
  unfold frameC at hB hK
  unfold frameV
  go_enter Tryd.func49, Tryd.ntmps49
  go_wp2_with fail
  go_quiet ((go_at_call 56; refine Calls.quiet_of_same (maxID_any lo _)))
  obtain ⟨W1, hW1⟩ : ∃ W1, W1 = (w.alloc (.cells #[.int .i64 id, .bool lo, .bool fa, .bool false, .int .i64 sz, .slice a len cap] 80)).drewN nq := ⟨_, rfl⟩
  have hB1 : Below w.heap.size w W1 := by rw [hW1]; exact below_dr hB nq
  have hK1 : FrAt W1 w.heap.size id lo fa false sz a len cap := by rw [hW1]; exact hK.kept ⟨rfl, rfl, rfl, Nat.le_refl _, fun _ _ => rfl⟩
  rw [← hW1]
  obtain ⟨k0, k1, k2, k3, k4, k5⟩ := hK1
  clear hB hK hW1
  clear hS hlb
  go_wp2_with fail
  go_ret
  exact ⟨rfl, hB1⟩
set_option maxHeartbeats 4000000 in
theorem ck_szN (id : Int) (lo fa : Bool) (sz : Int) (a : Option Addr) (len cap : Nat) (w : World) (hS : SizesAt w) (hlb : (len : Int) ≤ 9223372036854775807) (h0 : 0 ≤ id) (h2 : id ≤ topI lo) (h3 : 0 < sz) (h4 : sz ≤ 8) :
    Calls Tryd.prog 49 #[frameV id lo fa false sz a len cap] w fun e w' => e = .returned (.int .i64 3) ∧ Below w.heap.size w w' := by
  have hd0 : decide (id < 0) = false := by simp; omega
  have hB := below_box w id lo fa false sz a len cap
  have hK := FrAt.box w id lo fa false sz a len cap
  unfold frameC at hB hK
  unfold frameV
  have h5 : (sz != 0) = true := by simp; omega
  go_enter Tryd.func49, Tryd.ntmps49
  go_wp2_with fail
  go_quiet ((go_at_call 56; refine Calls.quiet_of_same (maxID_any lo _)))
  obtain ⟨W1, hW1⟩ : ∃ W1, W1 = (w.alloc (.cells #[.int .i64 id, .bool lo, .bool fa, .bool false, .int .i64 sz, .slice a len cap] 80)).drewN nq := ⟨_, rfl⟩
  have hB1 : Below w.heap.size w W1 := by rw [hW1]; exact below_dr hB nq
  have hK1 : FrAt W1 w.heap.size id lo fa false sz a len cap := by rw [hW1]; exact hK.kept ⟨rfl, rfl, rfl, Nat.le_refl _, fun _ _ => rfl⟩
  rw [← hW1]
  obtain ⟨k0, k1, k2, k3, k4, k5⟩ := hK1
  clear hB hK hW1
  clear hS hlb
  go_wp2_with fail
  go_ret
  exact ⟨rfl, hB1⟩
set_option maxHeartbeats 4000000 in
theorem ck_rszL (id : Int) (lo : Bool) (sz : Int) (a : Option Addr) (len cap : Nat) (w : World) (hS : SizesAt w) (hlb : (len : Int) ≤ 9223372036854775807) (h0 : 0 ≤ id) (h2 : id ≤ topI lo) (h3 : sz < 0) (hl : (len : Int) ≤ 0) :
    Calls Tryd.prog 49 #[frameV id lo false true sz a len cap] w fun e w' => e = .returned (.int .i64 3) ∧ Below w.heap.size w w' := by
  have hd0 : decide (id < 0) = false := by simp; omega
  have hB := below_box w id lo false true sz a len cap
  have hK := FrAt.box w id lo false true sz a len cap
  unfold frameC at hB hK
  unfold frameV
  go_enter Tryd.func49, Tryd.ntmps49
  go_wp2_with fail
  go_quiet ((go_at_call 56; refine Calls.quiet_of_same (maxID_any lo _)))
  obtain ⟨W1, hW1⟩ : ∃ W1, W1 = (w.alloc (.cells #[.int .i64 id, .bool lo, .bool false, .bool true, .int .i64 sz, .slice a len cap] 80)).drewN nq := ⟨_, rfl⟩
  have hB1 : Below w.heap.size w W1 := by rw [hW1]; exact below_dr hB nq
  have hK1 : FrAt W1 w.heap.size id lo false true sz a len cap := by rw [hW1]; exact hK.kept ⟨rfl, rfl, rfl, Nat.le_refl _, fun _ _ => rfl⟩
  rw [← hW1]
  obtain ⟨k0, k1, k2, k3, k4, k5⟩ := hK1
  clear hB hK hW1
  clear hS
  go_wp2_with fail
  go_ret
  exact ⟨rfl, hB1⟩
set_option maxHeartbeats 4000000 in
theorem ck_rszH (id : Int) (lo : Bool) (sz : Int) (a : Option Addr) (len cap : Nat) (w : World) (hS : SizesAt w) (hlb : (len : Int) ≤ 9223372036854775807) (h0 : 0 ≤ id) (h2 : id ≤ topI lo) (h3 : 8 < sz) (hl : (len : Int) ≤ 0) :
    Calls Tryd.prog 49 #[frameV id lo false true sz a len cap] w fun e w' => e = .returned (.int .i64 3) ∧ Below w.heap.size w w' := by
  have hd0 : decide (id < 0) = false := by simp; omega
  have hB := below_box w id lo false true sz a len cap
  have hK := FrAt.box w id lo false true sz a len cap
  unfold frameC at hB hK
  unfold frameV
  go_enter Tryd.func49, Tryd.ntmps49
  go_wp2_with fail
  go_quiet ((go_at_call 56; refine Calls.quiet_of_same (maxID_any lo _)))
  obtain ⟨W1, hW1⟩ : ∃ W1, W1 = (w.alloc (.cells #[.int .i64 id, .bool lo, .bool false, .bool true, .int .i64 sz, .slice a len cap] 80)).drewN nq := ⟨_, rfl⟩
  have hB1 : Below w.heap.size w W1 := by rw [hW1]; exact below_dr hB nq
  have hK1 : FrAt W1 w.heap.size id lo false true sz a len cap := by rw [hW1]; exact hK.kept ⟨rfl, rfl, rfl, Nat.le_refl _, fun _ _ => rfl⟩
  rw [← hW1]
  obtain ⟨k0, k1, k2, k3, k4, k5⟩ := hK1
  clear hB hK hW1
  clear hS
  go_wp2_with fail
  go_ret
  exact ⟨rfl, hB1⟩
set_option maxHeartbeats 4000000 in
theorem ck_many (id : Int) (lo fa : Bool) (a : Option Addr) (len cap : Nat) (w : World) (hS : SizesAt w) (hlb : (len : Int) ≤ 9223372036854775807) (h0 : 0 ≤ id) (h2 : id ≤ topI lo) (h3 : topDI fa < (len : Int)) :
    Calls Tryd.prog 49 #[frameV id lo fa false 0 a len cap] w fun e w' => e = .returned (.int .i64 2) ∧ Below w.heap.size w w' := by
  have hd0 : decide (id < 0) = false := by simp; omega
  have hB := below_box w id lo fa false 0 a len cap
  have hK := FrAt.box w id lo fa false 0 a len cap
  unfold frameC at hB hK
  unfold frameV
  go_enter Tryd.func49, Tryd.ntmps49
  go_wp2_with fail
  go_quiet ((go_at_call 56; refine Calls.quiet_of_same (maxID_any lo _)))
  obtain ⟨W1, hW1⟩ : ∃ W1, W1 = (w.alloc (.cells #[.int .i64 id, .bool lo, .bool fa, .bool false, .int .i64 0, .slice a len cap] 80)).drewN nq := ⟨_, rfl⟩
  have hB1 : Below w.heap.size w W1 := by rw [hW1]; exact below_dr hB nq
  have hK1 : FrAt W1 w.heap.size id lo fa false 0 a len cap := by rw [hW1]; exact hK.kept ⟨rfl, rfl, rfl, Nat.le_refl _, fun _ _ => rfl⟩
  rw [← hW1]
  obtain ⟨k0, k1, k2, k3, k4, k5⟩ := hK1
  clear hB hK hW1
  clear hS
  go_wp2_with fail
  go_quiet ((go_at_call 57; refine Calls.quiet_of_same (maxData_any fa _)))
  obtain ⟨W2, hW2⟩ : ∃ W2, W2 = W1.drewN nq := ⟨_, rfl⟩
  have hB2 : Below w.heap.size w W2 := by rw [hW2]; exact below_dr hB1 nq
  have j5 : W2.cell? ⟨w.heap.size, 5, none⟩ = some (.slice a len cap) := by rw [hW2]; exact k5
  rw [← hW2]
  clear hB1 hW2 k0 k1 k2 k3 k4 k5
  go_wp2_with fail
  go_ret
  exact ⟨rfl, hB2⟩
set_option maxHeartbeats 4000000 in
theorem ck_form (id : Int) (lo fa : Bool) (a : Option Addr) (len cap : Nat) (w : World) (hS : SizesAt w) (hlb : (len : Int) ≤ 9223372036854775807) (h0 : 0 ≤ id) (h2 : id ≤ topI lo) (h3 : (len : Int) ≤ topDI fa) (hq : idxI sizesI (len : Int) < 0) :
    Calls Tryd.prog 49 #[frameV id lo fa false 0 a len cap] w fun e w' => e = .returned (.int .i64 4) ∧ Below w.heap.size w w' := by
  have hd0 : decide (id < 0) = false := by simp; omega
  have hB := below_box w id lo fa false 0 a len cap
  have hK := FrAt.box w id lo fa false 0 a len cap
  unfold frameC at hB hK
  unfold frameV
  go_enter Tryd.func49, Tryd.ntmps49
  go_wp2_with fail
  go_quiet ((go_at_call 56; refine Calls.quiet_of_same (maxID_any lo _)))
  obtain ⟨W1, hW1⟩ : ∃ W1, W1 = (w.alloc (.cells #[.int .i64 id, .bool lo, .bool fa, .bool false, .int .i64 0, .slice a len cap] 80)).drewN nq := ⟨_, rfl⟩
  have hB1 : Below w.heap.size w W1 := by rw [hW1]; exact below_dr hB nq
  have hK1 : FrAt W1 w.heap.size id lo fa false 0 a len cap := by rw [hW1]; exact hK.kept ⟨rfl, rfl, rfl, Nat.le_refl _, fun _ _ => rfl⟩
  rw [← hW1]
  obtain ⟨k0, k1, k2, k3, k4, k5⟩ := hK1
  clear hB hK hW1
  go_wp2_with fail
  go_quiet ((go_at_call 57; refine Calls.quiet_of_same (maxData_any fa _)))
  obtain ⟨W2, hW2⟩ : ∃ W2, W2 = W1.drewN nq := ⟨_, rfl⟩
  have hB2 : Below w.heap.size w W2 := by rw [hW2]; exact below_dr hB1 nq
  have j5 : W2.cell? ⟨w.heap.size, 5, none⟩ = some (.slice a len cap) := by rw [hW2]; exact k5
  rw [← hW2]
  clear hB1 hW2 k0 k1 k2 k3 k4 k5
  have HS := Hid.mk (hS.kept hB2)
  go_wp2_with fail
  refine (codeOf_any (len : Int) W2 HS.out).mono ?_
  rintro e w1 ⟨rfl, hw⟩
  subst hw
  go_wp2_with fail
  go_ret
  exact ⟨rfl, hB2⟩
set_option maxHeartbeats 4000000 in
theorem ck_ok (id : Int) (lo fa : Bool) (a : Option Addr) (len cap : Nat) (w : World) (hS : SizesAt w) (hlb : (len : Int) ≤ 9223372036854775807) (h0 : 0 ≤ id) (h2 : id ≤ topI lo) (h3 : (len : Int) ≤ topDI fa) (hq : 0 ≤ idxI sizesI (len : Int)) :
    Calls Tryd.prog 49 #[frameV id lo fa false 0 a len cap] w fun e w' => e = .returned (.int .i64 0) ∧ Below w.heap.size w w' := by
  have hd0 : decide (id < 0) = false := by simp; omega
  have hB := below_box w id lo fa false 0 a len cap
  have hK := FrAt.box w id lo fa false 0 a len cap
  unfold frameC at hB hK
  unfold frameV
  go_enter Tryd.func49, Tryd.ntmps49
  go_wp2_with fail
  go_quiet ((go_at_call 56; refine Calls.quiet_of_same (maxID_any lo _)))
  obtain ⟨W1, hW1⟩ : ∃ W1, W1 = (w.alloc (.cells #[.int .i64 id, .bool lo, .bool fa, .bool false, .int .i64 0, .slice a len cap] 80)).drewN nq := ⟨_, rfl⟩
  have hB1 : Below w.heap.size w W1 := by rw [hW1]; exact below_dr hB nq
  have hK1 : FrAt W1 w.heap.size id lo fa false 0 a len cap := by rw [hW1]; exact hK.kept ⟨rfl, rfl, rfl, Nat.le_refl _, fun _ _ => rfl⟩
  rw [← hW1]
  obtain ⟨k0, k1, k2, k3, k4, k5⟩ := hK1
  clear hB hK hW1
  go_wp2_with fail
  go_quiet ((go_at_call 57; refine Calls.quiet_of_same (maxData_any fa _)))
  obtain ⟨W2, hW2⟩ : ∃ W2, W2 = W1.drewN nq := ⟨_, rfl⟩
  have hB2 : Below w.heap.size w W2 := by rw [hW2]; exact below_dr hB1 nq
  have j5 : W2.cell? ⟨w.heap.size, 5, none⟩ = some (.slice a len cap) := by rw [hW2]; exact k5
  rw [← hW2]
  clear hB1 hW2 k0 k1 k2 k3 k4 k5
  have HS := Hid.mk (hS.kept hB2)
  go_wp2_with fail
  refine (codeOf_any (len : Int) W2 HS.out).mono ?_
  rintro e w1 ⟨rfl, hw⟩
  subst hw
  go_wp2_with fail
  go_ret
  exact ⟨rfl, hB2⟩
set_option maxHeartbeats 4000000 in
theorem ck_rok0 (id : Int) (lo : Bool) (a : Option Addr) (len cap : Nat) (w : World) (hS : SizesAt w) (hlb : (len : Int) ≤ 9223372036854775807) (h0 : 0 ≤ id) (h2 : id ≤ topI lo) (hl : (len : Int) ≤ 0) (hq : 0 ≤ idxI sizesI (len : Int)) :
    Calls Tryd.prog 49 #[frameV id lo false true 0 a len cap] w fun e w' => e = .returned (.int .i64 0) ∧ Below w.heap.size w w' := by
  have hd0 : decide (id < 0) = false := by simp; omega
  have hB := below_box w id lo false true 0 a len cap
  have hK := FrAt.box w id lo false true 0 a len cap
  unfold frameC at hB hK
  unfold frameV
  go_enter Tryd.func49, Tryd.ntmps49
  go_wp2_with fail
  go_quiet ((go_at_call 56; refine Calls.quiet_of_same (maxID_any lo _)))
  obtain ⟨W1, hW1⟩ : ∃ W1, W1 = (w.alloc (.cells #[.int .i64 id, .bool lo, .bool false, .bool true, .int .i64 0, .slice a len cap] 80)).drewN nq := ⟨_, rfl⟩
  have hB1 : Below w.heap.size w W1 := by rw [hW1]; exact below_dr hB nq
  have hK1 : FrAt W1 w.heap.size id lo false true 0 a len cap := by rw [hW1]; exact hK.kept ⟨rfl, rfl, rfl, Nat.le_refl _, fun _ _ => rfl⟩
  rw [← hW1]
  obtain ⟨k0, k1, k2, k3, k4, k5⟩ := hK1
  clear hB hK hW1
  have h5 : (len : Int) ≤ topDI false := by simp only [topDI]; simp; omega
  go_wp2_with fail
  go_quiet ((go_at_call 57; refine Calls.quiet_of_same (maxData_any false _)))
  obtain ⟨W2, hW2⟩ : ∃ W2, W2 = W1.drewN nq := ⟨_, rfl⟩
  have hB2 : Below w.heap.size w W2 := by rw [hW2]; exact below_dr hB1 nq
  have j5 : W2.cell? ⟨w.heap.size, 5, none⟩ = some (.slice a len cap) := by rw [hW2]; exact k5
  rw [← hW2]
  clear hB1 hW2 k0 k1 k2 k3 k4 k5
  have HS := Hid.mk (hS.kept hB2)
  go_wp2_with fail
  refine (codeOf_any (len : Int) W2 HS.out).mono ?_
  rintro e w1 ⟨rfl, hw⟩
  subst hw
  go_wp2_with fail
  go_ret
  exact ⟨rfl, hB2⟩
set_option maxHeartbeats 4000000 in
theorem ck_rok1 (id : Int) (lo : Bool) (sz : Int) (a : Option Addr) (len cap : Nat) (w : World) (hS : SizesAt w) (hlb : (len : Int) ≤ 9223372036854775807) (h0 : 0 ≤ id) (h2 : id ≤ topI lo) (h3 : 0 < sz) (h4 : sz ≤ 8) (hl : (len : Int) ≤ 0) (hq : 0 ≤ idxI sizesI (len : Int)) :
    Calls Tryd.prog 49 #[frameV id lo false true sz a len cap] w fun e w' => e = .returned (.int .i64 0) ∧ Below w.heap.size w w' := by
  have hd0 : decide (id < 0) = false := by simp; omega
  have hB := below_box w id lo false true sz a len cap
  have hK := FrAt.box w id lo false true sz a len cap
  unfold frameC at hB hK
  unfold frameV
  have h6 : (sz != 0) = true := by simp; omega
  go_enter Tryd.func49, Tryd.ntmps49
  go_wp2_with fail
  go_quiet ((go_at_call 56; refine Calls.quiet_of_same (maxID_any lo _)))
  obtain ⟨W1, hW1⟩ : ∃ W1, W1 = (w.alloc (.cells #[.int .i64 id, .bool lo, .bool false, .bool true, .int .i64 sz, .slice a len cap] 80)).drewN nq := ⟨_, rfl⟩
  have hB1 : Below w.heap.size w W1 := by rw [hW1]; exact below_dr hB nq
  have hK1 : FrAt W1 w.heap.size id lo false true sz a len cap := by rw [hW1]; exact hK.kept ⟨rfl, rfl, rfl, Nat.le_refl _, fun _ _ => rfl⟩
  rw [← hW1]
  obtain ⟨k0, k1, k2, k3, k4, k5⟩ := hK1
  clear hB hK hW1
  have h5 : (len : Int) ≤ topDI false := by simp only [topDI]; simp; omega
  go_wp2_with fail
  go_quiet ((go_at_call 57; refine Calls.quiet_of_same (maxData_any false _)))
  obtain ⟨W2, hW2⟩ : ∃ W2, W2 = W1.drewN nq := ⟨_, rfl⟩
  have hB2 : Below w.heap.size w W2 := by rw [hW2]; exact below_dr hB1 nq
  have j5 : W2.cell? ⟨w.heap.size, 5, none⟩ = some (.slice a len cap) := by rw [hW2]; exact k5
  rw [← hW2]
  clear hB1 hW2 k0 k1 k2 k3 k4 k5
  have HS := Hid.mk (hS.kept hB2)
  go_wp2_with fail
  refine (codeOf_any (len : Int) W2 HS.out).mono ?_
  rintro e w1 ⟨rfl, hw⟩
  subst hw
  go_wp2_with fail
  go_ret
  exact ⟨rfl, hB2⟩
theorem frCheck_any (id : Int) (lo fa re : Bool) (sz : Int) (a : Option Addr) (len cap : Nat) (w : World) (hS : SizesAt w) (hl : len ≤ maxLen) :
    Calls Tryd.prog 49 #[frameV id lo fa re sz a len cap] w fun e w' => e = .returned (.int .i64 (frEn id lo fa re sz len)) ∧ Below w.heap.size w w' := by
  have hneg := idx_neg len
  have hlb : (len : Int) ≤ 9223372036854775807 := by unfold maxLen at hl; omega
  unfold frEn
  by_cases h1 : id < 0 ∨ topI lo < id
  · rw [if_pos h1]
    by_cases h0 : id < 0
    · exact ck_low id lo fa re sz a len cap w h0
    · exact ck_high id lo fa re sz a len cap w (by omega) (by omega)
  · rw [if_neg h1]
    have h0 : 0 ≤ id := by omega
    have h2 : id ≤ topI lo := by omega
    cases re
    · rw [if_neg (by simp)]
      by_cases h5 : sz < 0 ∨ 8 < sz ∨ (0 < sz ∧ false = false)
      · rw [if_pos h5]
        by_cases h6 : sz < 0
        · exact ck_szL id lo fa sz a len cap w hS hlb h0 h2 h6
        · by_cases h7 : 8 < sz
          · exact ck_szH id lo fa sz a len cap w hS hlb h0 h2 h7
          · exact ck_szN id lo fa sz a len cap w hS hlb h0 h2 (by simp at h5; omega) (by omega)
      · rw [if_neg h5]
        obtain rfl : sz = 0 := by simp at h5; omega
        by_cases h9 : 64 < len ∨ (8 < len ∧ fa = false)
        · rw [if_pos h9]
          exact ck_many id lo fa a len cap w hS hlb h0 h2 (by cases fa <;> simp [topDI] at h9 ⊢ <;> omega)
        · rw [if_neg h9]
          have h10 : (len : Int) ≤ topDI fa := by cases fa <;> simp [topDI] at h9 ⊢ <;> omega
          by_cases hm : len ∈ sizesL
          · rw [if_pos hm]
            exact ck_ok id lo fa a len cap w hS hlb h0 h2 h10 (by rcases Int.lt_or_le (idxI sizesI (len : Int)) 0 with h | h; exact absurd hm (hneg.1 h); exact h)
          · rw [if_neg hm]
            exact ck_form id lo fa a len cap w hS hlb h0 h2 h10 (hneg.2 hm)
    · cases fa
      · by_cases hlen : len = 0
        · subst hlen
          rw [if_neg (by simp)]
          by_cases h5 : sz < 0 ∨ 8 < sz ∨ (0 < sz ∧ true = false)
          · rw [if_pos h5]
            by_cases h6 : sz < 0
            · exact ck_rszL id lo sz a 0 cap w hS hlb h0 h2 h6 (by simp)
            · exact ck_rszH id lo sz a 0 cap w hS hlb h0 h2 (by simp at h5; omega) (by simp)
          · rw [if_neg h5, if_neg (by simp), if_pos (by decide)]
            by_cases hz : sz = 0
            · subst hz
              exact ck_rok0 id lo a 0 cap w hS hlb h0 h2 (by simp) (by decide)
            · exact ck_rok1 id lo sz a 0 cap w hS hlb h0 h2 (by omega) (by omega) (by simp) (by decide)
        · rw [if_pos ⟨rfl, .inr hlen⟩]
          exact ck_remD id lo sz a len cap w hS hlb h0 h2 (by omega)
      · rw [if_pos ⟨rfl, .inl rfl⟩]
        exact ck_remF id lo sz a len cap w hS hlb h0 h2
end Bw
end Go.Proofs.YtnhnemmddgofnaaDoor
namespace Go.Proofs.YtnhnemmddgofnaaDoor
open Go.ChangeShapes Go.WideShapes Go.ChangeAt Go.RowKit
namespace Bw
open Bm Cm

theorem head_take (n : Nat) : bitsHead (n / 262144) 11 11 = (bitsHead n 29 29).take 11 := by
  unfold bitsHead
  rw [← List.map_take, List.take_range]
  apply List.map_congr_left
  intro i hi
  have hi' : i < 11 := by simpa using hi
  unfold bitAt
  have e : n / 262144 / 2 ^ (11 - 1 - i) = n / 2 ^ (29 - 1 - i) := by
    rw [Nat.div_div_eq_div_mul, show (262144 : Nat) = 2 ^ 18 by rfl, ← Nat.pow_add, show 18 + (11 - 1 - i) = 29 - 1 - i by omega]
  rw [e]
theorem head_drop (n : Nat) : bitsHead (n % 262144) 18 18 = (bitsHead n 29 29).drop 11 := by
  apply List.ext_getElem
  · simp [bitsHead_length]
  intro i h1 h2
  have hi : i < 18 := by simpa [bitsHead_length] using h1
  simp only [bitsHead, List.getElem_map, List.getElem_drop, List.getElem_range]
  unfold bitAt
  have e : n % 262144 / 2 ^ (18 - 1 - i) % 2 = n / 2 ^ (29 - 1 - (11 + i)) % 2 := by
    rw [show 29 - 1 - (11 + i) = 18 - 1 - i by omega, show (262144 : Nat) = 2 ^ 18 by rfl]
    have h := Nat.testBit_mod_two_pow n 18 (18 - 1 - i)
    have hd : decide (18 - 1 - i < 18) = true := by simp; omega
    rw [hd, Bool.true_and, Nat.testBit_eq_decide_div_mod_eq, Nat.testBit_eq_decide_div_mod_eq] at h
    have h' : (n % 2 ^ 18 / 2 ^ (18 - 1 - i) % 2 = 1) ↔ (n / 2 ^ (18 - 1 - i) % 2 = 1) := by simpa using h
    omega
  rw [e]
theorem and_low (n : Nat) (h : n < 2 ^ 29) : bits .and .i64 (n : Int) 262143 = ((n % 262144 : Nat) : Int) := by
  have := bits_mask .i64 63 (by decide) (fun n h0 h1 => by rw [IntKind.wrap_i64]; omega) 18 (by decide) (n : Int) (by omega) (by omega)
  simpa using this

set_option maxHeartbeats 4000000 in
theorem name_shortP (n : Nat) (fa re : Bool) (sz : Int) (a : Option Addr) (len cap : Nat) (w : World) (hn : n < 2 ^ 11) :
    Calls Tryd.prog 61 #[frameV n false fa re sz a len cap] w fun e w' => e = .returned (.string ⟨(bitsHead n 11 11 ++ [bitB re, 48]).toArray⟩) ∧ Below w.heap.size w w' := by
  have hB := below_box w n false fa re sz a len cap
  have hK := FrAt.box w n false fa re sz a len cap
  unfold frameC at hB hK
  unfold frameV
  have hr := fun W => row_ok n 11 W (by omega) hn
  have hS := mk_list (bitsHead n 11 11)
  generalize ByteArray.mk (bitsHead n 11 11).toArray = S at *
  have hSs : S.size ≤ 11 := by rw [ba_size hS, bitsHead_length]; exact Nat.le_refl _
  have hBs : (ByteArray.mk #[bitB re]).size = 1 := rfl
  have hbl : (ByteArray.mk #[bitB re]).data.toList = [bitB re] := rfl
  have hfb := fun W => frBit_any re W
  generalize ByteArray.mk #[bitB re] = B at *
  have hBm : B.size ≤ 1 := by omega
  have HSL := Hid.mk hS
  have HR := Hid.mk hr
  have HBL := Hid.mk hbl
  have HFB := Hid.mk hfb
  have HK := Hid.mk hK
  clear hr hn hS hbl hfb hBs hK
  go_enter Tryd.func61, Tryd.ntmps61
  go_wp2_with fail
  refine (HR.out _).mono ?_
  rintro e w1 ⟨rfl, hb1⟩
  have hbel1 := bl2 hB hb1
  have k3 := (HK.out.kept hb1).c3
  clear hB hb1 HR HK
  go_wp2_with fail
  refine (HFB.out _).mono ?_
  rintro e w2 ⟨rfl, hw⟩
  subst hw
  go_wp2_with fail
  go_ret
  exact ⟨ret_str1 (by rw [ba_cat, ba_cat, HSL.out, HBL.out]; simp), hbel1⟩
set_option maxHeartbeats 4000000 in
theorem name_longP (n : Nat) (fa re : Bool) (sz : Int) (a : Option Addr) (len cap : Nat) (w : World) (hn : n < 2 ^ 29) :
    Calls Tryd.prog 61 #[frameV n true fa re sz a len cap] w fun e w' => e = .returned (.string ⟨((bitsHead n 29 29).take 11 ++ [49, 49] ++ (bitsHead n 29 29).drop 11 ++ [bitB re]).toArray⟩) ∧ Below w.heap.size w w' := by
  have hB := below_box w n true fa re sz a len cap
  have hK := FrAt.box w n true fa re sz a len cap
  unfold frameC at hB hK
  unfold frameV
  have hr := fun W => row_ok (n / 262144) 11 W (by omega) (by omega)
  have hr2 := fun W => row_ok (n % 262144) 18 W (by omega) (by omega)
  have e1 : (n : Int) / 262144 = ((n / 262144 : Nat) : Int) := by omega
  have e2 := and_low n hn
  rw [← e1] at hr
  rw [← e2] at hr2
  have hS := mk_list (bitsHead (n / 262144) 11 11)
  generalize ByteArray.mk (bitsHead (n / 262144) 11 11).toArray = S at *
  have hSs : S.size ≤ 11 := by rw [ba_size hS, bitsHead_length]; exact Nat.le_refl _
  have hS2 := mk_list (bitsHead (n % 262144) 18 18)
  generalize ByteArray.mk (bitsHead (n % 262144) 18 18).toArray = S2 at *
  have hSs2 : S2.size ≤ 18 := by rw [ba_size hS2, bitsHead_length]; exact Nat.le_refl _
  have hBs : (ByteArray.mk #[bitB re]).size = 1 := rfl
  have hbl : (ByteArray.mk #[bitB re]).data.toList = [bitB re] := rfl
  have hfb := fun W => frBit_any re W
  generalize ByteArray.mk #[bitB re] = B at *
  have hBm : B.size ≤ 1 := by omega
  rw [head_take] at hS
  rw [head_drop] at hS2
  have HSL := Hid.mk hS
  have HSL2 := Hid.mk hS2
  have HR := Hid.mk hr
  have HR2 := Hid.mk hr2
  have HBL := Hid.mk hbl
  have HFB := Hid.mk hfb
  have HK := Hid.mk hK
  clear hr hr2 hn hS hS2 hbl hfb hBs hK e1 e2
  go_enter Tryd.func61, Tryd.ntmps61
  go_wp2_with fail
  refine (HR.out _).mono ?_
  rintro e w1 ⟨rfl, hb1⟩
  have hbel1 := bl2 hB hb1
  have k0 := (HK.out.kept hb1).c0
  have HK1 := Hid.mk (HK.out.kept hb1)
  clear hB hb1 HR HK
  go_wp2_with fail
  refine (HR2.out _).mono ?_
  rintro e w2 ⟨rfl, hb2⟩
  have hbel2 := bl2 hbel1 hb2
  have k3 := (HK1.out.kept hb2).c3
  clear hbel1 hb2 HR2 HK1 k0
  go_wp2_with fail
  refine (HFB.out _).mono ?_
  rintro e w3 ⟨rfl, hw⟩
  subst hw
  go_wp2_with fail
  go_ret
  exact ⟨ret_str1 (by rw [ba_cat, ba_cat, ba_cat, HSL.out, HSL2.out, HBL.out]), hbel2⟩
theorem name_any (f : Fr) (a : Option Addr) (len cap : Nat) (w : World) (h0 : 0 ≤ f.id) (h1 : f.id ≤ topI f.lo) :
    Calls Tryd.prog 61 #[frameV f.id f.lo f.fa f.re f.sz a len cap] w fun e w' => e = .returned (.string ⟨(nameL f).toArray⟩) ∧ Below w.heap.size w w' := by
  obtain ⟨id, lo, fa, re, sz, dt⟩ := f
  obtain ⟨n, rfl⟩ : ∃ n : Nat, id = (n : Int) := ⟨id.toNat, by simp only at h0; omega⟩
  simp only at h0 h1 ⊢
  cases lo
  · exact name_shortP n fa re sz a len cap w (by simp [topI] at h1; omega)
  · exact name_longP n fa re sz a len cap w (by simp [topI] at h1; omega)

end Bw
end Go.Proofs.YtnhnemmddgofnaaDoor
namespace Go.Proofs.YtnhnemmddgofnaaDoor
open Go.ChangeShapes Go.WideShapes Go.ChangeAt Go.RowKit
namespace Bw
open Bm Cm
set_option maxHeartbeats 2000000 in
theorem form_any (f : Fr) (a : Option Addr) (len cap : Nat) (w : World) :
    Calls Tryd.prog 62 #[frameV f.id f.lo f.fa f.re f.sz a len cap] w fun e w' => e = .returned (.string ⟨(midL f).toArray⟩) ∧ Below w.heap.size w w' := by
  have hB := below_box w f.id f.lo f.fa f.re f.sz a len cap
  unfold frameC at hB
  unfold frameV midL
  obtain ⟨id, lo, fa, re, sz, dt⟩ := f
  simp only at hB ⊢
  cases fa <;> cases lo
  all_goals focus
    go_enter Tryd.func62, Tryd.ntmps62
    go_wp2_with fail
    go_ret
    exact ⟨rfl, hB⟩
end Bw
end Go.Proofs.YtnhnemmddgofnaaDoor
namespace Go.Proofs.YtnhnemmddgofnaaDoor
open Go.ChangeShapes Go.WideShapes Go.ChangeAt Go.RowKit
namespace Bw
open Bm Cm Go.Sort

theorem sizes_low (n : Nat) (h : n ≤ 8) : n ∈ sizesL ∧ sizesL.idxOf n = n := by
  have : ∀ m : Fin 9, m.val ∈ sizesL ∧ sizesL.idxOf m.val = m.val := by decide +kernel
  exact this ⟨n, by omega⟩
/-- the number that tells the code -/
def sizeI (f : Fr) : Int := if f.re then f.sz else (f.dt.length : Int)
theorem code_idx {f : Fr} (hE : frE f = 0) : idxI sizesI (sizeI f) = (codeN f : Int) ∧ codeN f < 2 ^ 4 := by
  obtain ⟨-, -, e3, e4, e5, e6, e7, e8, e9⟩ := frE_ok hE
  unfold sizeI codeN
  cases hre : f.re
  · exact idx_sizes e9
  · have h := sizes_low f.sz.toNat (by omega)
    have h2 := idx_sizes h.1
    rw [h.2] at h2
    simp only [if_true]
    rw [show ((f.sz.toNat : Nat) : Int) = f.sz by omega] at h2
    exact ⟨by rw [h2.1]; omega, h2.2⟩
theorem FrAt.regrown {w : World} {g : Nat} {id : Int} {lo fa re : Bool} {sz : Int} {a : Option Addr} {len cap : Nat} (h : FrAt w g id lo fa re sz a len cap) (d : Nat) (os : Array Obj) : FrAt (grow (redrawn w d) os) g id lo fa re sz a len cap :=
  ⟨cell_regrown h.c0 d os, cell_regrown h.c1 d os, cell_regrown h.c2 d os, cell_regrown h.c3 d os, cell_regrown h.c4 d os, cell_regrown h.c5 d os⟩

set_option maxHeartbeats 8000000 in
theorem head_any (f : Fr) (a : Option Addr) (len cap : Nat) (w : World) (hS : SizesAt w) (hE : frE f = 0) (hr : IsBytes w a len cap f.dt) :
    Calls Tryd.prog 50 #[frameV f.id f.lo f.fa f.re f.sz a len cap] w fun e w' => e = .returned (.string ⟨(headL f).toArray⟩) ∧ Below w.heap.size w w' := by
  obtain ⟨e1, e2, e3, e4, e5, e6, e7, e8, e9⟩ := frE_ok hE
  have hdl : f.dt.length = len := hr.1
  obtain ⟨hix, hcode⟩ := code_idx hE
  have hB := below_box w f.id f.lo f.fa f.re f.sz a len cap
  have hK := FrAt.box w f.id f.lo f.fa f.re f.sz a len cap
  unfold frameC at hB hK
  have hnm := fun W => name_any f a len cap W e1 e2
  have hfm := fun W => form_any f a len cap W
  unfold frameV at hnm hfm ⊢
  have hco := fun W hW => codeOf_any (sizeI f) W hW
  rw [hix] at hco
  have hro := fun W => row_ok (codeN f) 4 W (by omega) hcode
  have hof := fun W hB => of_any a len cap f.dt W (by omega) hB
  have hNl := mk_list (nameL f)
  have hNs := nameL_len f
  have hMl := mk_list (midL f)
  have hMs := midL_len f
  have hRl := mk_list (bitsHead (codeN f) 4 4)
  have hOl := mk_list (ofL f.dt)
  have hOs : (ofL f.dt).length ≤ 512 := by rw [ofL_length]; omega
  have hfin : headL f = [48] ++ nameL f ++ midL f ++ bitsHead (codeN f) 4 4 ++ ofL f.dt := rfl
  generalize ByteArray.mk (nameL f).toArray = NM at *
  generalize ByteArray.mk (midL f).toArray = MD at *
  generalize ByteArray.mk (bitsHead (codeN f) 4 4).toArray = CD at *
  generalize ByteArray.mk (ofL f.dt).toArray = OF at *
  have z1 : NM.size ≤ 32 := by rw [ba_size hNl, hNs]; split <;> omega
  have z2 : MD.size ≤ 4 := by rw [ba_size hMl]; omega
  have z3 : CD.size ≤ 4 := by rw [ba_size hRl, bitsHead_length]; exact Nat.le_refl _
  have z4 : OF.size ≤ 512 := by rw [ba_size hOl]; exact hOs
  have HS := Hid.mk (hS.kept hB)
  have HBY := Hid.mk (isBytes_below hr hB)
  have HNM := Hid.mk hnm
  have HFM := Hid.mk hfm
  have HCO := Hid.mk hco
  have HRO := Hid.mk hro
  have HOF := Hid.mk hof
  have HK := Hid.mk hK
  have HFIN := Hid.mk hfin
  have HL := Hid.mk (And.intro hNl (And.intro hMl (And.intro hRl hOl)))
  have hlen : (len : Int) ≤ 64 := by omega
  have hsi : sizeI f = if f.re then f.sz else (len : Int) := by unfold sizeI; rw [hdl]
  have HSI := Hid.mk hsi
  clear hS hr hnm hfm hco hro hof hNl hNs hMl hMs hRl hOl hOs hfin hK e1 e2 e3 e4 e5 e6 e7 e8 e9 hE hix hcode hdl hsi
  generalize codeN f = cn at *
  generalize sizeI f = si at *
  cases hre : f.re
  all_goals
    rw [hre] at HNM HFM HK hB HSI HS HBY
    have hsi := HSI.out
    simp only [Bool.false_eq_true, if_false, if_true] at hsi
    subst hsi
    go_enter Tryd.func50, Tryd.ntmps50
    go_wp2_with fail
    refine (HCO.out _ HS.out).mono ?_
    rintro e w1 ⟨rfl, hw1⟩
    subst hw1
    go_wp2_with fail
    refine (HRO.out _).mono ?_
    rintro e w2 ⟨rfl, hb2⟩
    have hbel2 := bl2 hB hb2
    have HBY2 := Hid.mk (isBytes_below HBY.out hb2)
    have HK2 := Hid.mk (HK.out.kept hb2)
    have k5 := HK2.out.c5
    clear hB hb2 HBY HK HCO HRO HS
    go_wp2_with fail
    refine (HOF.out _ HBY2.out).mono ?_
    rintro e w3 ⟨rfl, hb3⟩
    have hbel3 := bl2 hbel2 hb3
    have HK3 := Hid.mk (HK2.out.kept hb3)
    clear hbel2 hb3 HBY2 HK2 k5 HOF
    have r0 := fun d os => (HK3.out.regrown d os).c0
    have r1 := fun d os => (HK3.out.regrown d os).c1
    have r2 := fun d os => (HK3.out.regrown d os).c2
    have r3 := fun d os => (HK3.out.regrown d os).c3
    have r4 := fun d os => (HK3.out.regrown d os).c4
    have r5 := fun d os => (HK3.out.regrown d os).c5
    go_wp2_with fail
    refine wp_region_quiet_below (by kernel_rfl) (by kernel_rfl) ?_
    set_option maxRecDepth 100000 in
    repeat (go_big_quiet_step (first
      | (go_at_call 61; exact Calls.regrown_of (HNM.out _))
      | (go_at_call 62; exact Calls.regrown_of (HFM.out _))))
    refine wpQuiet_nil ?_
    intro _ hw'
    obtain ⟨⟨dq, osq⟩, hw''⟩ := hw'
    subst hw''
    have hbq := bl2 hbel3 (below_regrown w3 dq osq)
    clear r0 r1 r2 r3 r4 r5 hbel3
    go_wp2_with fail
    go_ret
    obtain ⟨l1, l2, l3, l4⟩ := HL.out
    exact ⟨ret_str1 (by rw [HFIN.out, ba_cat, ba_cat, ba_cat, ba_cat, l1, l2, l3, l4]), hbq⟩
end Bw
end Go.Proofs.YtnhnemmddgofnaaDoor
