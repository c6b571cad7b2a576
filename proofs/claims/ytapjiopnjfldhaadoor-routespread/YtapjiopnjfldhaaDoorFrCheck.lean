/- What frame.Check answers of any frame. -/
import Derived.Test.YtapjiopnjfldhaaDoorFrSmall
import Derived.Test.YtapjiopnjfldhaaDoorA6
namespace Go.Proofs.YtapjiopnjfldhaaDoor
open Go.ChangeShapes Go.WideShapes Go.ChangeAt Go.RowKit
namespace Bw
open Bm Cm

set_option linter.unusedVariables false
theorem idx_neg (n : Nat) : idxI sizesI (n : Int) < 0 ↔ n ∉ sizesL := by
  constructor
  · intro h hm
    have := (idx_sizes hm).1
    omega
  · intro h
    rw [idxI_none]
    · omega
    · intro hm
      apply h
      unfold sizesI at hm
      obtain ⟨m, h1, h2⟩ := List.mem_map.1 hm
      have : m = n := by omega
      rw [← this]; exact h1
theorem below_dr {w a : World} (h : Below w.heap.size w a) (n : Nat) : Below w.heap.size w (a.drewN n) := bl2 h ⟨rfl, rfl, rfl, Nat.le_refl _, fun _ _ => rfl⟩
def frameC (id : Int) (lo fa re : Bool) (sz : Int) (a : Option Addr) (len cap : Nat) : Obj := .cells #[.int .i64 id, .bool lo, .bool fa, .bool re, .int .i64 sz, .slice a len cap] 28
/-- block g holds a frame -/
structure FrAt (w : World) (g : Nat) (id : Int) (lo fa re : Bool) (sz : Int) (a : Option Addr) (len cap : Nat) : Prop where
  c0 : w.cell? ⟨g, 0, none⟩ = some (.int .i64 id)
  c1 : w.cell? ⟨g, 1, none⟩ = some (.bool lo)
  c2 : w.cell? ⟨g, 2, none⟩ = some (.bool fa)
  c3 : w.cell? ⟨g, 3, none⟩ = some (.bool re)
  c4 : w.cell? ⟨g, 4, none⟩ = some (.int .i64 sz)
  c5 : w.cell? ⟨g, 5, none⟩ = some (.slice a len cap)
theorem FrAt.kept {w w' : World} {g : Nat} {id : Int} {lo fa re : Bool} {sz : Int} {a : Option Addr} {len cap : Nat} (h : FrAt w g id lo fa re sz a len cap) (hb : Below w.heap.size w w') : FrAt w' g id lo fa re sz a len cap :=
  ⟨cell_kept hb h.c0, cell_kept hb h.c1, cell_kept hb h.c2, cell_kept hb h.c3, cell_kept hb h.c4, cell_kept hb h.c5⟩
theorem FrAt.box (w : World) (id : Int) (lo fa re : Bool) (sz : Int) (a : Option Addr) (len cap : Nat) : FrAt (w.alloc (frameC id lo fa re sz a len cap)) w.heap.size id lo fa re sz a len cap := by
  have h := fun j => cell_of_row (w.alloc (frameC id lo fa re sz a len cap)) w.heap.size j _ _ _ (heap_alloc_new w _)
  exact ⟨h 0, h 1, h 2, h 3, h 4, h 5⟩
theorem below_box (w : World) (id : Int) (lo fa re : Bool) (sz : Int) (a : Option Addr) (len cap : Nat) : Below w.heap.size w (w.alloc (frameC id lo fa re sz a len cap)) := (Below.refl _ _).alloc (Nat.le_refl _) _

set_option maxHeartbeats 4000000 in
theorem ck_low (id : Int) (lo fa re : Bool) (sz : Int) (a : Option Addr) (len cap : Nat) (w : World) (h0 : id < 0) :
    Calls Tryd.prog 44 #[frameV id lo fa re sz a len cap] w fun e w' => e = .returned (.int .i64 3) ∧ Below w.heap.size w w' := by
  have hd0 : decide (id < 0) = true := by simpa using h0
  have hB := below_box w id lo fa re sz a len cap
  unfold frameC at hB
  unfold frameV
  go_enter Tryd.func44, Tryd.ntmps44
  go_wp2_with fail
  go_quiet (fail)
  go_wp2_with fail
  go_ret
  exact ⟨rfl, below_dr hB _⟩
set_option maxHeartbeats 4000000 in
theorem ck_high (id : Int) (lo fa re : Bool) (sz : Int) (a : Option Addr) (len cap : Nat) (w : World) (h0 : 0 ≤ id) (h2 : topI lo < id) :
    Calls Tryd.prog 44 #[frameV id lo fa re sz a len cap] w fun e w' => e = .returned (.int .i64 3) ∧ Below w.heap.size w w' := by
  have hd0 : decide (id < 0) = false := by simp; omega
  have hB := below_box w id lo fa re sz a len cap
  unfold frameC at hB
  unfold frameV
  go_enter Tryd.func44, Tryd.ntmps44
  go_wp2_with fail
  go_quiet ((go_at_call 60; refine Calls.quiet_of_same (maxID_any lo _)))
  go_wp2_with fail
  go_ret
  exact ⟨rfl, below_dr hB _⟩
set_option maxHeartbeats 4000000 in
theorem ck_remF (id : Int) (lo : Bool) (sz : Int) (a : Option Addr) (len cap : Nat) (w : World) (hS : SizesAt w) (hlb : (len : Int) ≤ 9223372036854775807) (h0 : 0 ≤ id) (h2 : id ≤ topI lo)  :
    Calls Tryd.prog 44 #[frameV id lo true true sz a len cap] w fun e w' => e = .returned (.int .i64 4) ∧ Below w.heap.size w w' := by
  have hd0 : decide (id < 0) = false := by simp; omega
  have hB := below_box w id lo true true sz a len cap
  have hK := FrAt.box w id lo true true sz a len cap
  unfold frameC at hB hK
  unfold frameV
  go_enter Tryd.func44, Tryd.ntmps44
  go_wp2_with fail
  go_quiet ((go_at_call 60; refine Calls.quiet_of_same (maxID_any lo _)))
  obtain ⟨W1, hW1⟩ : ∃ W1, W1 = (w.alloc (.cells #[.int .i64 id, .bool lo, .bool true, .bool true, .int .i64 sz, .slice a len cap] 28)).drewN nq := ⟨_, rfl⟩
  have hB1 : Below w.heap.size w W1 := by rw [hW1]; exact below_dr hB nq
  have hK1 : FrAt W1 w.heap.size id lo true true sz a len cap := by rw [hW1]; exact hK.kept ⟨rfl, rfl, rfl, Nat.le_refl _, fun _ _ => rfl⟩
  rw [← hW1]
  obtain ⟨k0, k1, k2, k3, k4, k5⟩ := hK1
  clear hB hK hW1
  clear hS hlb
  go_wp2_with fail
  go_ret
  exact ⟨rfl, hB1⟩
set_option maxHeartbeats 4000000 in
theorem ck_remD (id : Int) (lo : Bool) (sz : Int) (a : Option Addr) (len cap : Nat) (w : World) (hS : SizesAt w) (hlb : (len : Int) ≤ 9223372036854775807) (h0 : 0 ≤ id) (h2 : id ≤ topI lo) (h3 : (0 : Int) < (len : Int)) :
    Calls Tryd.prog 44 #[frameV id lo false true sz a len cap] w fun e w' => e = .returned (.int .i64 4) ∧ Below w.heap.size w w' := by
  have hd0 : decide (id < 0) = false := by simp; omega
  have hB := below_box w id lo false true sz a len cap
  have hK := FrAt.box w id lo false true sz a len cap
  unfold frameC at hB hK
  unfold frameV
  go_enter Tryd.func44, Tryd.ntmps44
  go_wp2_with fail
  go_quiet ((go_at_call 60; refine Calls.quiet_of_same (maxID_any lo _)))
  obtain ⟨W1, hW1⟩ : ∃ W1, W1 = (w.alloc (.cells #[.int .i64 id, .bool lo, .bool false, .bool true, .int .i64 sz, .slice a len cap] 28)).drewN nq := ⟨_, rfl⟩
  have hB1 : Below w.heap.size w W1 := by rw [hW1]; exact below_dr hB nq
  have hK1 : FrAt W1 w.heap.size id lo false true sz a len cap := by rw [hW1]; exact hK.kept ⟨rfl, rfl, rfl, Nat.le_refl _, fun _ _ => rfl⟩
  rw [← hW1]
  obtain ⟨k0, k1, k2, k3, k4, k5⟩ := hK1
  clear hB hK hW1
  clear hS
  go_wp2_with fail
  go_ret
  exact ⟨rfl, hB1⟩
set_option maxHeartbeats 4000000 in
theorem ck_szL (id : Int) (lo fa : Bool) (sz : Int) (a : Option Addr) (len cap : Nat) (w : World) (hS : SizesAt w) (hlb : (len : Int) ≤ 9223372036854775807) (h0 : 0 ≤ id) (h2 : id ≤ topI lo) (h3 : sz < 0) :
    Calls Tryd.prog 44 #[frameV id lo fa false sz a len cap] w fun e w' => e = .returned (.int .i64 3) ∧ Below w.heap.size w w' := by
  have hd0 : decide (id < 0) = false := by simp; omega
  have hB := below_box w id lo fa false sz a len cap
  have hK := FrAt.box w id lo fa false sz a len cap
  unfold frameC at hB hK
  unfold frameV
  go_enter Tryd.func44, Tryd.ntmps44
  go_wp2_with fail
  go_quiet ((go_at_call 60; refine Calls.quiet_of_same (maxID_any lo _)))
  obtain ⟨W1, hW1⟩ : ∃ W1, W1 = (w.alloc (.cells #[.int .i64 id, .bool lo, .bool fa, .bool false, .int .i64 sz, .slice a len cap] 28)).drewN nq := ⟨_, rfl⟩
  have hB1 : Below w.heap.size w W1 := by rw [hW1]; exact below_dr hB nq
  have hK1 : FrAt W1 w.heap.size id lo fa false sz a len cap := by rw [hW1]; exact hK.kept ⟨rfl, rfl, rfl, Nat.le_refl _, fun _ _ => rfl⟩
  rw [← hW1]
  obtain ⟨k0, k1, k2, k3, k4, k5⟩ := hK1
  clear hB hK hW1
  clear hS hlb
  go_wp2_with fail
  go_ret
  exact ⟨rfl, hB1⟩
set_option maxHeartbeats 4000000 in
theorem ck_szH (id : Int) (lo fa : Bool) (sz : Int) (a : Option Addr) (len cap : Nat) (w : World) (hS : SizesAt w) (hlb : (len : Int) ≤ 9223372036854775807) (h0 : 0 ≤ id) (h2 : id ≤ topI lo) (h3 : 8 < sz) :
    Calls Tryd.prog 44 #[frameV id lo fa false sz a len cap] w fun e w' => e = .returned (.int .i64 3) ∧ Below w.heap.size w w' := by
  have hd0 : decide (id < 0) = false := by simp; omega
  have hB := below_box w id lo fa false sz a len cap
  have hK := FrAt.box w id lo fa false sz a len cap
  unfold frameC at hB hK
  unfold frameV
  go_enter Tryd.func44, Tryd.ntmps44
  go_wp2_with fail
  go_quiet ((go_at_call 60; refine Calls.quiet_of_same (maxID_any lo _)))
  obtain ⟨W1, hW1⟩ : ∃ W1, W1 = (w.alloc (.cells #[.int .i64 id, .bool lo, .bool fa, .bool false, .int .i64 sz, .slice a len cap] 28)).drewN nq := ⟨_, rfl⟩
  have hB1 : Below w.heap.size w W1 := by rw [hW1]; exact below_dr hB nq
  have hK1 : FrAt W1 w.heap.size id lo fa false sz a len cap := by rw [hW1]; exact hK.kept ⟨rfl, rfl, rfl, Nat.le_refl _, fun _ _ => rfl⟩
  rw [← hW1]
  obtain ⟨k0, k1, k2, k3, k4, k5⟩ := hK1
  clear hB hK hW1
  clear hS hlb
  go_wp2_with fail
  go_ret
  exact ⟨rfl, hB1⟩
set_option maxHeartbeats 4000000 in
theorem ck_szN (id : Int) (lo fa : Bool) (sz : Int) (a : Option Addr) (len cap : Nat) (w : World) (hS : SizesAt w) (hlb : (len : Int) ≤ 9223372036854775807) (h0 : 0 ≤ id) (h2 : id ≤ topI lo) (h3 : 0 < sz) (h4 : sz ≤ 8) :
    Calls Tryd.prog 44 #[frameV id lo fa false sz a len cap] w fun e w' => e = .returned (.int .i64 3) ∧ Below w.heap.size w w' := by
  have hd0 : decide (id < 0) = false := by simp; omega
  have hB := below_box w id lo fa false sz a len cap
  have hK := FrAt.box w id lo fa false sz a len cap
  unfold frameC at hB hK
  unfold frameV
  have h5 : (sz != 0) = true := by simp; omega
  go_enter Tryd.func44, Tryd.ntmps44
  go_wp2_with fail
  go_quiet ((go_at_call 60; refine Calls.quiet_of_same (maxID_any lo _)))
  obtain ⟨W1, hW1⟩ : ∃ W1, W1 = (w.alloc (.cells #[.int .i64 id, .bool lo, .bool fa, .bool false, .int .i64 sz, .slice a len cap] 28)).drewN nq := ⟨_, rfl⟩
  have hB1 : Below w.heap.size w W1 := by rw [hW1]; exact below_dr hB nq
  have hK1 : FrAt W1 w.heap.size id lo fa false sz a len cap := by rw [hW1]; exact hK.kept ⟨rfl, rfl, rfl, Nat.le_refl _, fun _ _ => rfl⟩
  rw [← hW1]
  obtain ⟨k0, k1, k2, k3, k4, k5⟩ := hK1
  clear hB hK hW1
  clear hS hlb
  go_wp2_with fail
  go_ret
  exact ⟨rfl, hB1⟩
set_option maxHeartbeats 4000000 in
theorem ck_rszL (id : Int) (lo : Bool) (sz : Int) (a : Option Addr) (len cap : Nat) (w : World) (hS : SizesAt w) (hlb : (len : Int) ≤ 9223372036854775807) (h0 : 0 ≤ id) (h2 : id ≤ topI lo) (h3 : sz < 0) (hl : (len : Int) ≤ 0) :
    Calls Tryd.prog 44 #[frameV id lo false true sz a len cap] w fun e w' => e = .returned (.int .i64 3) ∧ Below w.heap.size w w' := by
  have hd0 : decide (id < 0) = false := by simp; omega
  have hB := below_box w id lo false true sz a len cap
  have hK := FrAt.box w id lo false true sz a len cap
  unfold frameC at hB hK
  unfold frameV
  go_enter Tryd.func44, Tryd.ntmps44
  go_wp2_with fail
  go_quiet ((go_at_call 60; refine Calls.quiet_of_same (maxID_any lo _)))
  obtain ⟨W1, hW1⟩ : ∃ W1, W1 = (w.alloc (.cells #[.int .i64 id, .bool lo, .bool false, .bool true, .int .i64 sz, .slice a len cap] 28)).drewN nq := ⟨_, rfl⟩
  have hB1 : Below w.heap.size w W1 := by rw [hW1]; exact below_dr hB nq
  have hK1 : FrAt W1 w.heap.size id lo false true sz a len cap := by rw [hW1]; exact hK.kept ⟨rfl, rfl, rfl, Nat.le_refl _, fun _ _ => rfl⟩
  rw [← hW1]
  obtain ⟨k0, k1, k2, k3, k4, k5⟩ := hK1
  clear hB hK hW1
  clear hS
  go_wp2_with fail
  go_ret
  exact ⟨rfl, hB1⟩
set_option maxHeartbeats 4000000 in
theorem ck_rszH (id : Int) (lo : Bool) (sz : Int) (a : Option Addr) (len cap : Nat) (w : World) (hS : SizesAt w) (hlb : (len : Int) ≤ 9223372036854775807) (h0 : 0 ≤ id) (h2 : id ≤ topI lo) (h3 : 8 < sz) (hl : (len : Int) ≤ 0) :
    Calls Tryd.prog 44 #[frameV id lo false true sz a len cap] w fun e w' => e = .returned (.int .i64 3) ∧ Below w.heap.size w w' := by
  have hd0 : decide (id < 0) = false := by simp; omega
  have hB := below_box w id lo false true sz a len cap
  have hK := FrAt.box w id lo false true sz a len cap
  unfold frameC at hB hK
  unfold frameV
  go_enter Tryd.func44, Tryd.ntmps44
  go_wp2_with fail
  go_quiet ((go_at_call 60; refine Calls.quiet_of_same (maxID_any lo _)))
  obtain ⟨W1, hW1⟩ : ∃ W1, W1 = (w.alloc (.cells #[.int .i64 id, .bool lo, .bool false, .bool true, .int .i64 sz, .slice a len cap] 28)).drewN nq := ⟨_, rfl⟩
  have hB1 : Below w.heap.size w W1 := by rw [hW1]; exact below_dr hB nq
  have hK1 : FrAt W1 w.heap.size id lo false true sz a len cap := by rw [hW1]; exact hK.kept ⟨rfl, rfl, rfl, Nat.le_refl _, fun _ _ => rfl⟩
  rw [← hW1]
  obtain ⟨k0, k1, k2, k3, k4, k5⟩ := hK1
  clear hB hK hW1
  clear hS
  go_wp2_with fail
  go_ret
  exact ⟨rfl, hB1⟩
set_option maxHeartbeats 4000000 in
theorem ck_many (id : Int) (lo fa : Bool) (a : Option Addr) (len cap : Nat) (w : World) (hS : SizesAt w) (hlb : (len : Int) ≤ 9223372036854775807) (h0 : 0 ≤ id) (h2 : id ≤ topI lo) (h3 : topDI fa < (len : Int)) :
    Calls Tryd.prog 44 #[frameV id lo fa false 0 a len cap] w fun e w' => e = .returned (.int .i64 2) ∧ Below w.heap.size w w' := by
  have hd0 : decide (id < 0) = false := by simp; omega
  have hB := below_box w id lo fa false 0 a len cap
  have hK := FrAt.box w id lo fa false 0 a len cap
  unfold frameC at hB hK
  unfold frameV
  go_enter Tryd.func44, Tryd.ntmps44
  go_wp2_with fail
  go_quiet ((go_at_call 60; refine Calls.quiet_of_same (maxID_any lo _)))
  obtain ⟨W1, hW1⟩ : ∃ W1, W1 = (w.alloc (.cells #[.int .i64 id, .bool lo, .bool fa, .bool false, .int .i64 0, .slice a len cap] 28)).drewN nq := ⟨_, rfl⟩
  have hB1 : Below w.heap.size w W1 := by rw [hW1]; exact below_dr hB nq
  have hK1 : FrAt W1 w.heap.size id lo fa false 0 a len cap := by rw [hW1]; exact hK.kept ⟨rfl, rfl, rfl, Nat.le_refl _, fun _ _ => rfl⟩
  rw [← hW1]
  obtain ⟨k0, k1, k2, k3, k4, k5⟩ := hK1
  clear hB hK hW1
  clear hS
  go_wp2_with fail
  go_quiet ((go_at_call 61; refine Calls.quiet_of_same (maxData_any fa _)))
  obtain ⟨W2, hW2⟩ : ∃ W2, W2 = W1.drewN nq := ⟨_, rfl⟩
  have hB2 : Below w.heap.size w W2 := by rw [hW2]; exact below_dr hB1 nq
  have j5 : W2.cell? ⟨w.heap.size, 5, none⟩ = some (.slice a len cap) := by rw [hW2]; exact k5
  rw [← hW2]
  clear hB1 hW2 k0 k1 k2 k3 k4 k5
  go_wp2_with fail
  go_ret
  exact ⟨rfl, hB2⟩
set_option maxHeartbeats 4000000 in
theorem ck_form (id : Int) (lo fa : Bool) (a : Option Addr) (len cap : Nat) (w : World) (hS : SizesAt w) (hlb : (len : Int) ≤ 9223372036854775807) (h0 : 0 ≤ id) (h2 : id ≤ topI lo) (h3 : (len : Int) ≤ topDI fa) (hq : idxI sizesI (len : Int) < 0) :
    Calls Tryd.prog 44 #[frameV id lo fa false 0 a len cap] w fun e w' => e = .returned (.int .i64 4) ∧ Below w.heap.size w w' := by
  have hd0 : decide (id < 0) = false := by simp; omega
  have hB := below_box w id lo fa false 0 a len cap
  have hK := FrAt.box w id lo fa false 0 a len cap
  unfold frameC at hB hK
  unfold frameV
  go_enter Tryd.func44, Tryd.ntmps44
  go_wp2_with fail
  go_quiet ((go_at_call 60; refine Calls.quiet_of_same (maxID_any lo _)))
  obtain ⟨W1, hW1⟩ : ∃ W1, W1 = (w.alloc (.cells #[.int .i64 id, .bool lo, .bool fa, .bool false, .int .i64 0, .slice a len cap] 28)).drewN nq := ⟨_, rfl⟩
  have hB1 : Below w.heap.size w W1 := by rw [hW1]; exact below_dr hB nq
  have hK1 : FrAt W1 w.heap.size id lo fa false 0 a len cap := by rw [hW1]; exact hK.kept ⟨rfl, rfl, rfl, Nat.le_refl _, fun _ _ => rfl⟩
  rw [← hW1]
  obtain ⟨k0, k1, k2, k3, k4, k5⟩ := hK1
  clear hB hK hW1
  go_wp2_with fail
  go_quiet ((go_at_call 61; refine Calls.quiet_of_same (maxData_any fa _)))
  obtain ⟨W2, hW2⟩ : ∃ W2, W2 = W1.drewN nq := ⟨_, rfl⟩
  have hB2 : Below w.heap.size w W2 := by rw [hW2]; exact below_dr hB1 nq
  have j5 : W2.cell? ⟨w.heap.size, 5, none⟩ = some (.slice a len cap) := by rw [hW2]; exact k5
  rw [← hW2]
  clear hB1 hW2 k0 k1 k2 k3 k4 k5
  have HS := Hid.mk (hS.kept hB2)
  go_wp2_with fail
  refine (codeOf_any (len : Int) W2 HS.out).mono ?_
  rintro e w1 ⟨rfl, hw⟩
  subst hw
  go_wp2_with fail
  go_ret
  exact ⟨rfl, hB2⟩
set_option maxHeartbeats 4000000 in
theorem ck_ok (id : Int) (lo fa : Bool) (a : Option Addr) (len cap : Nat) (w : World) (hS : SizesAt w) (hlb : (len : Int) ≤ 9223372036854775807) (h0 : 0 ≤ id) (h2 : id ≤ topI lo) (h3 : (len : Int) ≤ topDI fa) (hq : 0 ≤ idxI sizesI (len : Int)) :
    Calls Tryd.prog 44 #[frameV id lo fa false 0 a len cap] w fun e w' => e = .returned (.int .i64 0) ∧ Below w.heap.size w w' := by
  have hd0 : decide (id < 0) = false := by simp; omega
  have hB := below_box w id lo fa false 0 a len cap
  have hK := FrAt.box w id lo fa false 0 a len cap
  unfold frameC at hB hK
  unfold frameV
  go_enter Tryd.func44, Tryd.ntmps44
  go_wp2_with fail
  go_quiet ((go_at_call 60; refine Calls.quiet_of_same (maxID_any lo _)))
  obtain ⟨W1, hW1⟩ : ∃ W1, W1 = (w.alloc (.cells #[.int .i64 id, .bool lo, .bool fa, .bool false, .int .i64 0, .slice a len cap] 28)).drewN nq := ⟨_, rfl⟩
  have hB1 : Below w.heap.size w W1 := by rw [hW1]; exact below_dr hB nq
  have hK1 : FrAt W1 w.heap.size id lo fa false 0 a len cap := by rw [hW1]; exact hK.kept ⟨rfl, rfl, rfl, Nat.le_refl _, fun _ _ => rfl⟩
  rw [← hW1]
  obtain ⟨k0, k1, k2, k3, k4, k5⟩ := hK1
  clear hB hK hW1
  go_wp2_with fail
  go_quiet ((go_at_call 61; refine Calls.quiet_of_same (maxData_any fa _)))
  obtain ⟨W2, hW2⟩ : ∃ W2, W2 = W1.drewN nq := ⟨_, rfl⟩
  have hB2 : Below w.heap.size w W2 := by rw [hW2]; exact below_dr hB1 nq
  have j5 : W2.cell? ⟨w.heap.size, 5, none⟩ = some (.slice a len cap) := by rw [hW2]; exact k5
  rw [← hW2]
  clear hB1 hW2 k0 k1 k2 k3 k4 k5
  have HS := Hid.mk (hS.kept hB2)
  go_wp2_with fail
  refine (codeOf_any (len : Int) W2 HS.out).mono ?_
  rintro e w1 ⟨rfl, hw⟩
  subst hw
  go_wp2_with fail
  go_ret
  exact ⟨rfl, hB2⟩
set_option maxHeartbeats 4000000 in
theorem ck_rok0 (id : Int) (lo : Bool) (a : Option Addr) (len cap : Nat) (w : World) (hS : SizesAt w) (hlb : (len : Int) ≤ 9223372036854775807) (h0 : 0 ≤ id) (h2 : id ≤ topI lo) (hl : (len : Int) ≤ 0) (hq : 0 ≤ idxI sizesI (len : Int)) :
    Calls Tryd.prog 44 #[frameV id lo false true 0 a len cap] w fun e w' => e = .returned (.int .i64 0) ∧ Below w.heap.size w w' := by
  have hd0 : decide (id < 0) = false := by simp; omega
  have hB := below_box w id lo false true 0 a len cap
  have hK := FrAt.box w id lo false true 0 a len cap
  unfold frameC at hB hK
  unfold frameV
  go_enter Tryd.func44, Tryd.ntmps44
  go_wp2_with fail
  go_quiet ((go_at_call 60; refine Calls.quiet_of_same (maxID_any lo _)))
  obtain ⟨W1, hW1⟩ : ∃ W1, W1 = (w.alloc (.cells #[.int .i64 id, .bool lo, .bool false, .bool true, .int .i64 0, .slice a len cap] 28)).drewN nq := ⟨_, rfl⟩
  have hB1 : Below w.heap.size w W1 := by rw [hW1]; exact below_dr hB nq
  have hK1 : FrAt W1 w.heap.size id lo false true 0 a len cap := by rw [hW1]; exact hK.kept ⟨rfl, rfl, rfl, Nat.le_refl _, fun _ _ => rfl⟩
  rw [← hW1]
  obtain ⟨k0, k1, k2, k3, k4, k5⟩ := hK1
  clear hB hK hW1
  have h5 : (len : Int) ≤ topDI false := by simp only [topDI]; simp; omega
  go_wp2_with fail
  go_quiet ((go_at_call 61; refine Calls.quiet_of_same (maxData_any false _)))
  obtain ⟨W2, hW2⟩ : ∃ W2, W2 = W1.drewN nq := ⟨_, rfl⟩
  have hB2 : Below w.heap.size w W2 := by rw [hW2]; exact below_dr hB1 nq
  have j5 : W2.cell? ⟨w.heap.size, 5, none⟩ = some (.slice a len cap) := by rw [hW2]; exact k5
  rw [← hW2]
  clear hB1 hW2 k0 k1 k2 k3 k4 k5
  have HS := Hid.mk (hS.kept hB2)
  go_wp2_with fail
  refine (codeOf_any (len : Int) W2 HS.out).mono ?_
  rintro e w1 ⟨rfl, hw⟩
  subst hw
  go_wp2_with fail
  go_ret
  exact ⟨rfl, hB2⟩
set_option maxHeartbeats 4000000 in
theorem ck_rok1 (id : Int) (lo : Bool) (sz : Int) (a : Option Addr) (len cap : Nat) (w : World) (hS : SizesAt w) (hlb : (len : Int) ≤ 9223372036854775807) (h0 : 0 ≤ id) (h2 : id ≤ topI lo) (h3 : 0 < sz) (h4 : sz ≤ 8) (hl : (len : Int) ≤ 0) (hq : 0 ≤ idxI sizesI (len : Int)) :
    Calls Tryd.prog 44 #[frameV id lo false true sz a len cap] w fun e w' => e = .returned (.int .i64 0) ∧ Below w.heap.size w w' := by
  have hd0 : decide (id < 0) = false := by simp; omega
  have hB := below_box w id lo false true sz a len cap
  have hK := FrAt.box w id lo false true sz a len cap
  unfold frameC at hB hK
  unfold frameV
  have h6 : (sz != 0) = true := by simp; omega
  go_enter Tryd.func44, Tryd.ntmps44
  go_wp2_with fail
  go_quiet ((go_at_call 60; refine Calls.quiet_of_same (maxID_any lo _)))
  obtain ⟨W1, hW1⟩ : ∃ W1, W1 = (w.alloc (.cells #[.int .i64 id, .bool lo, .bool false, .bool true, .int .i64 sz, .slice a len cap] 28)).drewN nq := ⟨_, rfl⟩
  have hB1 : Below w.heap.size w W1 := by rw [hW1]; exact below_dr hB nq
  have hK1 : FrAt W1 w.heap.size id lo false true sz a len cap := by rw [hW1]; exact hK.kept ⟨rfl, rfl, rfl, Nat.le_refl _, fun _ _ => rfl⟩
  rw [← hW1]
  obtain ⟨k0, k1, k2, k3, k4, k5⟩ := hK1
  clear hB hK hW1
  have h5 : (len : Int) ≤ topDI false := by simp only [topDI]; simp; omega
  go_wp2_with fail
  go_quiet ((go_at_call 61; refine Calls.quiet_of_same (maxData_any false _)))
  obtain ⟨W2, hW2⟩ : ∃ W2, W2 = W1.drewN nq := ⟨_, rfl⟩
  have hB2 : Below w.heap.size w W2 := by rw [hW2]; exact below_dr hB1 nq
  have j5 : W2.cell? ⟨w.heap.size, 5, none⟩ = some (.slice a len cap) := by rw [hW2]; exact k5
  rw [← hW2]
  clear hB1 hW2 k0 k1 k2 k3 k4 k5
  have HS := Hid.mk (hS.kept hB2)
  go_wp2_with fail
  refine (codeOf_any (len : Int) W2 HS.out).mono ?_
  rintro e w1 ⟨rfl, hw⟩
  subst hw
  go_wp2_with fail
  go_ret
  exact ⟨rfl, hB2⟩
theorem frCheck_any (id : Int) (lo fa re : Bool) (sz : Int) (a : Option Addr) (len cap : Nat) (w : World) (hS : SizesAt w) (hl : len ≤ maxLen) :
    Calls Tryd.prog 44 #[frameV id lo fa re sz a len cap] w fun e w' => e = .returned (.int .i64 (frEn id lo fa re sz len)) ∧ Below w.heap.size w w' := by
  have hneg := idx_neg len
  have hlb : (len : Int) ≤ 9223372036854775807 := by unfold maxLen at hl; omega
  unfold frEn
  by_cases h1 : id < 0 ∨ topI lo < id
  · rw [if_pos h1]
    by_cases h0 : id < 0
    · exact ck_low id lo fa re sz a len cap w h0
    · exact ck_high id lo fa re sz a len cap w (by omega) (by omega)
  · rw [if_neg h1]
    have h0 : 0 ≤ id := by omega
    have h2 : id ≤ topI lo := by omega
    cases re
    · rw [if_neg (by simp)]
      by_cases h5 : sz < 0 ∨ 8 < sz ∨ (0 < sz ∧ false = false)
      · rw [if_pos h5]
        by_cases h6 : sz < 0
        · exact ck_szL id lo fa sz a len cap w hS hlb h0 h2 h6
        · by_cases h7 : 8 < sz
          · exact ck_szH id lo fa sz a len cap w hS hlb h0 h2 h7
          · exact ck_szN id lo fa sz a len cap w hS hlb h0 h2 (by simp at h5; omega) (by omega)
      · rw [if_neg h5]
        obtain rfl : sz = 0 := by simp at h5; omega
        by_cases h9 : 64 < len ∨ (8 < len ∧ fa = false)
        · rw [if_pos h9]
          exact ck_many id lo fa a len cap w hS hlb h0 h2 (by cases fa <;> simp [topDI] at h9 ⊢ <;> omega)
        · rw [if_neg h9]
          have h10 : (len : Int) ≤ topDI fa := by cases fa <;> simp [topDI] at h9 ⊢ <;> omega
          by_cases hm : len ∈ sizesL
          · rw [if_pos hm]
            exact ck_ok id lo fa a len cap w hS hlb h0 h2 h10 (by rcases Int.lt_or_le (idxI sizesI (len : Int)) 0 with h | h; exact absurd hm (hneg.1 h); exact h)
          · rw [if_neg hm]
            exact ck_form id lo fa a len cap w hS hlb h0 h2 h10 (hneg.2 hm)
    · cases fa
      · by_cases hlen : len = 0
        · subst hlen
          rw [if_neg (by simp)]
          by_cases h5 : sz < 0 ∨ 8 < sz ∨ (0 < sz ∧ true = false)
          · rw [if_pos h5]
            by_cases h6 : sz < 0
            · exact ck_rszL id lo sz a 0 cap w hS hlb h0 h2 h6 (by simp)
            · exact ck_rszH id lo sz a 0 cap w hS hlb h0 h2 (by simp at h5; omega) (by simp)
          · rw [if_neg h5, if_neg (by simp), if_pos (by decide)]
            by_cases hz : sz = 0
            · subst hz
              exact ck_rok0 id lo a 0 cap w hS hlb h0 h2 (by simp) (by decide)
            · exact ck_rok1 id lo sz a 0 cap w hS hlb h0 h2 (by omega) (by omega) (by simp) (by decide)
        · rw [if_pos ⟨rfl, .inr hlen⟩]
          exact ck_remD id lo sz a len cap w hS hlb h0 h2 (by omega)
      · rw [if_pos ⟨rfl, .inl rfl⟩]
        exact ck_remF id lo sz a len cap w hS hlb h0 h2
end Bw
end Go.Proofs.YtapjiopnjfldhaaDoor
