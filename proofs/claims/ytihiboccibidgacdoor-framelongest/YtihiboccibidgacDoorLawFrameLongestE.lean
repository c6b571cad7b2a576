/- Joined out of our texts: FrCheck, FrName, FrHead, FrBits, FrBack, EqualB, RefSame, ShelfPre, Framed, Fmt2, ShelfStr, Ref1, Ref2, RefRow, RefName. -/
import Derived.Test.YtihiboccibidgacDoorLawFrameLongestC
import Derived.Test.YtihiboccibidgacDoorLawFrameLongestD
import Derived.Test.YtihiboccibidgacDoorLawFrameLongestB
import Derived.Test.YtihiboccibidgacDoorLawFrameLongestA
import Derived.BigQuiet
import Derived.Lib.QuietBelow
import Derived.Shelf.Strings.Prefix
import Derived.Test.YtihiboccibidgacDoorProg
import Derived.Shelf.Strings.Repeat
/- What frame.Check answers of any frame. -/
namespace Go.Proofs.YtihiboccibidgacDoor
open Go.ChangeShapes Go.WideShapes Go.ChangeAt Go.RowKit
namespace Bw
open Bm Cm

set_option linter.unusedVariables false
theorem idx_neg (n : Nat) : idxI sizesI (n : Int) < 0 ↔ n ∉ sizesL := by
  constructor
  · intro h hm
    have := (idx_sizes hm).1
    omega
  · intro h
    rw [idxI_none]
    · omega
    · intro hm
      apply h
      unfold sizesI at hm
      obtain ⟨m, h1, h2⟩ := List.mem_map.1 hm
      have : m = n := by omega
      rw [← this]; exact h1
theorem below_dr {w a : World} (h : Below w.heap.size w a) (n : Nat) : Below w.heap.size w (a.drewN n) := bl2 h ⟨rfl, rfl, rfl, Nat.le_refl _, fun _ _ => rfl⟩
def frameC (id : Int) (lo fa re : Bool) (sz : Int) (a : Option Addr) (len cap : Nat) : Obj := .cells #[.int .i64 id, .bool lo, .bool fa, .bool re, .int .i64 sz, .slice a len cap] 33
/-- block g holds a frame -/
structure FrAt (w : World) (g : Nat) (id : Int) (lo fa re : Bool) (sz : Int) (a : Option Addr) (len cap : Nat) : Prop where
  c0 : w.cell? ⟨g, 0, none⟩ = some (.int .i64 id)
  c1 : w.cell? ⟨g, 1, none⟩ = some (.bool lo)
  c2 : w.cell? ⟨g, 2, none⟩ = some (.bool fa)
  c3 : w.cell? ⟨g, 3, none⟩ = some (.bool re)
  c4 : w.cell? ⟨g, 4, none⟩ = some (.int .i64 sz)
  c5 : w.cell? ⟨g, 5, none⟩ = some (.slice a len cap)
theorem FrAt.kept {w w' : World} {g : Nat} {id : Int} {lo fa re : Bool} {sz : Int} {a : Option Addr} {len cap : Nat} (h : FrAt w g id lo fa re sz a len cap) (hb : Below w.heap.size w w') : FrAt w' g id lo fa re sz a len cap :=
  ⟨cell_kept hb h.c0, cell_kept hb h.c1, cell_kept hb h.c2, cell_kept hb h.c3, cell_kept hb h.c4, cell_kept hb h.c5⟩
theorem FrAt.box (w : World) (id : Int) (lo fa re : Bool) (sz : Int) (a : Option Addr) (len cap : Nat) : FrAt (w.alloc (frameC id lo fa re sz a len cap)) w.heap.size id lo fa re sz a len cap := by
  have h := fun j => cell_of_row (w.alloc (frameC id lo fa re sz a len cap)) w.heap.size j _ _ _ (heap_alloc_new w _)
  exact ⟨h 0, h 1, h 2, h 3, h 4, h 5⟩
theorem below_box (w : World) (id : Int) (lo fa re : Bool) (sz : Int) (a : Option Addr) (len cap : Nat) : Below w.heap.size w (w.alloc (frameC id lo fa re sz a len cap)) := (Below.refl _ _).alloc (Nat.le_refl _) _

set_option maxHeartbeats 4000000 in
theorem ck_low (id : Int) (lo fa re : Bool) (sz : Int) (a : Option Addr) (len cap : Nat) (w : World) (h0 : id < 0) :
    Calls Tryd.prog 22 #[frameV id lo fa re sz a len cap] w fun e w' => e = .returned (.int .i64 3) ∧ Below w.heap.size w w' := by
  have hd0 : decide (id < 0) = true := by simpa using h0
  have hB := below_box w id lo fa re sz a len cap
  unfold frameC at hB
  unfold frameV
  go_enter Tryd.func22, Tryd.ntmps22
  go_wp2_with fail
  go_quiet (fail)
  go_wp2_with fail
  go_ret
  exact ⟨rfl, below_dr hB _⟩
set_option maxHeartbeats 4000000 in
theorem ck_high (id : Int) (lo fa re : Bool) (sz : Int) (a : Option Addr) (len cap : Nat) (w : World) (h0 : 0 ≤ id) (h2 : topI lo < id) :
    Calls Tryd.prog 22 #[frameV id lo fa re sz a len cap] w fun e w' => e = .returned (.int .i64 3) ∧ Below w.heap.size w w' := by
  have hd0 : decide (id < 0) = false := by simp; omega
  have hB := below_box w id lo fa re sz a len cap
  unfold frameC at hB
  unfold frameV
  go_enter Tryd.func22, Tryd.ntmps22
  go_wp2_with fail
  go_quiet ((go_at_call 46; refine Calls.quiet_of_same (maxID_any lo _)))
  go_wp2_with fail
  go_ret
  exact ⟨rfl, below_dr hB _⟩
set_option maxHeartbeats 4000000 in
theorem ck_remF (id : Int) (lo : Bool) (sz : Int) (a : Option Addr) (len cap : Nat) (w : World) (hS : SizesAt w) (hlb : (len : Int) ≤ 9223372036854775807) (h0 : 0 ≤ id) (h2 : id ≤ topI lo)  :
    Calls Tryd.prog 22 #[frameV id lo true true sz a len cap] w fun e w' => e = .returned (.int .i64 4) ∧ Below w.heap.size w w' := by
  have hd0 : decide (id < 0) = false := by simp; omega
  have hB := below_box w id lo true true sz a len cap
  have hK := FrAt.box w id lo true true sz a len cap
  unfold frameC at hB hK
  unfold frameV
  go_enter Tryd.func22, Tryd.ntmps22
  go_wp2_with fail
  go_quiet ((go_at_call 46; refine Calls.quiet_of_same (maxID_any lo _)))
  obtain ⟨W1, hW1⟩ : ∃ W1, W1 = (w.alloc (.cells #[.int .i64 id, .bool lo, .bool true, .bool true, .int .i64 sz, .slice a len cap] 33)).drewN nq := ⟨_, rfl⟩
  have hB1 : Below w.heap.size w W1 := by rw [hW1]; exact below_dr hB nq
  have hK1 : FrAt W1 w.heap.size id lo true true sz a len cap := by rw [hW1]; exact hK.kept ⟨rfl, rfl, rfl, Nat.le_refl _, fun _ _ => rfl⟩
  rw [← hW1]
  obtain ⟨k0, k1, k2, k3, k4, k5⟩ := hK1
  clear hB hK hW1
  clear hS hlb
  go_wp2_with fail
  go_ret
  exact ⟨rfl, hB1⟩
set_option maxHeartbeats 4000000 in
theorem ck_remD (id : Int) (lo : Bool) (sz : Int) (a : Option Addr) (len cap : Nat) (w : World) (hS : SizesAt w) (hlb : (len : Int) ≤ 9223372036854775807) (h0 : 0 ≤ id) (h2 : id ≤ topI lo) (h3 : (0 : Int) < (len : Int)) :
    Calls Tryd.prog 22 #[frameV id lo false true sz a len cap] w fun e w' => e = .returned (.int .i64 4) ∧ Below w.heap.size w w' := by
  have hd0 : decide (id < 0) = false := by simp; omega
  have hB := below_box w id lo false true sz a len cap
  have hK := FrAt.box w id lo false true sz a len cap
  unfold frameC at hB hK
  unfold frameV
  go_enter Tryd.func22, Tryd.ntmps22
  go_wp2_with fail
  go_quiet ((go_at_call 46; refine Calls.quiet_of_same (maxID_any lo _)))
  obtain ⟨W1, hW1⟩ : ∃ W1, W1 = (w.alloc (.cells #[.int .i64 id, .bool lo, .bool false, .bool true, .int .i64 sz, .slice a len cap] 33)).drewN nq := ⟨_, rfl⟩
  have hB1 : Below w.heap.size w W1 := by rw [hW1]; exact below_dr hB nq
  have hK1 : FrAt W1 w.heap.size id lo false true sz a len cap := by rw [hW1]; exact hK.kept ⟨rfl, rfl, rfl, Nat.le_refl _, fun _ _ => rfl⟩
  rw [← hW1]
  obtain ⟨k0, k1, k2, k3, k4, k5⟩ := hK1
  clear hB hK hW1
  clear hS
  go_wp2_with fail
  go_ret
  exact ⟨rfl, hB1⟩
set_option maxHeartbeats 4000000 in
theorem ck_szL (id : Int) (lo fa : Bool) (sz : Int) (a : Option Addr) (len cap : Nat) (w : World) (hS : SizesAt w) (hlb : (len : Int) ≤ 9223372036854775807) (h0 : 0 ≤ id) (h2 : id ≤ topI lo) (h3 : sz < 0) :
    Calls Tryd.prog 22 #[frameV id lo fa false sz a len cap] w fun e w' => e = .returned (.int .i64 3) ∧ Below w.heap.size w w' := by
  have hd0 : decide (id < 0) = false := by simp; omega
  have hB := below_box w id lo fa false sz a len cap
  have hK := FrAt.box w id lo fa false sz a len cap
  unfold frameC at hB hK
  unfold frameV
  go_enter Tryd.func22, Tryd.ntmps22
  go_wp2_with fail
  go_quiet ((go_at_call 46; refine Calls.quiet_of_same (maxID_any lo _)))
  obtain ⟨W1, hW1⟩ : ∃ W1, W1 = (w.alloc (.cells #[.int .i64 id, .bool lo, .bool fa, .bool false, .int .i64 sz, .slice a len cap] 33)).drewN nq := ⟨_, rfl⟩
  have hB1 : Below w.heap.size w W1 := by rw [hW1]; exact below_dr hB nq
  have hK1 : FrAt W1 w.heap.size id lo fa false sz a len cap := by rw [hW1]; exact hK.kept ⟨rfl, rfl, rfl, Nat.le_refl _, fun _ _ => rfl⟩
  rw [← hW1]
  obtain ⟨k0, k1, k2, k3, k4, k5⟩ := hK1
  clear hB hK hW1
  clear hS hlb
  go_wp2_with fail
  go_ret
  exact ⟨rfl, hB1⟩
set_option maxHeartbeats 4000000 in
theorem ck_szH (id : Int) (lo fa : Bool) (sz : Int) (a : Option Addr) (len cap : Nat) (w : World) (hS : SizesAt w) (hlb : (len : Int) ≤ 9223372036854775807) (h0 : 0 ≤ id) (h2 : id ≤ topI lo) (h3 : 8 < sz) :
    Calls Tryd.prog 22 #[frameV id lo fa false sz a len cap] w fun e w' => e = .returned (.int .i64 3) ∧ Below w.heap.size w w' := by
  have hd0 : decide (id < 0) = false := by simp; omega
  have hB := below_box w id lo fa false sz a len cap
  have hK := FrAt.box w id lo fa false sz a len cap
  unfold frameC at hB hK
  unfold frameV
  go_enter Tryd.func22, Tryd.ntmps22
  go_wp2_with fail
  go_quiet ((go_at_call 46; refine Calls.quiet_of_same (maxID_any lo _)))
  obtain ⟨W1, hW1⟩ : ∃ W1, W1 = (w.alloc (.cells #[.int .i64 id, .bool lo, .bool fa, .bool false, .int .i64 sz, .slice a len cap] 33)).drewN nq := ⟨_, rfl⟩
  have hB1 : Below w.heap.size w W1 := by rw [hW1]; exact below_dr hB nq
  have hK1 : FrAt W1 w.heap.size id lo fa false sz a len cap := by rw [hW1]; exact hK.kept ⟨rfl, rfl, rfl, Nat.le_refl _, fun _ _ => rfl⟩
  rw [← hW1]
  obtain ⟨k0, k1, k2, k3, k4, k5⟩ := hK1
  clear hB hK hW1
  clear hS hlb
  go_wp2_with fail
  go_ret
  exact ⟨rfl, hB1⟩
set_option maxHeartbeats 4000000 in
theorem ck_szN (id : Int) (lo fa : Bool) (sz : Int) (a : Option Addr) (len cap : Nat) (w : World) (hS : SizesAt w) (hlb : (len : Int) ≤ 9223372036854775807) (h0 : 0 ≤ id) (h2 : id ≤ topI lo) (h3 : 0 < sz) (h4 : sz ≤ 8) :
    Calls Tryd.prog 22 #[frameV id lo fa false sz a len cap] w fun e w' => e = .returned (.int .i64 3) ∧ Below w.heap.size w w' := by
  have hd0 : decide (id < 0) = false := by simp; omega
  have hB := below_box w id lo fa false sz a len cap
  have hK := FrAt.box w id lo fa false sz a len cap
  unfold frameC at hB hK
  unfold frameV
  have h5 : (sz != 0) = true := by simp; omega
  go_enter Tryd.func22, Tryd.ntmps22
  go_wp2_with fail
  go_quiet ((go_at_call 46; refine Calls.quiet_of_same (maxID_any lo _)))
  obtain ⟨W1, hW1⟩ : ∃ W1, W1 = (w.alloc (.cells #[.int .i64 id, .bool lo, .bool fa, .bool false, .int .i64 sz, .slice a len cap] 33)).drewN nq := ⟨_, rfl⟩
  have hB1 : Below w.heap.size w W1 := by rw [hW1]; exact below_dr hB nq
  have hK1 : FrAt W1 w.heap.size id lo fa false sz a len cap := by rw [hW1]; exact hK.kept ⟨rfl, rfl, rfl, Nat.le_refl _, fun _ _ => rfl⟩
  rw [← hW1]
  obtain ⟨k0, k1, k2, k3, k4, k5⟩ := hK1
  clear hB hK hW1
  clear hS hlb
  go_wp2_with fail
  go_ret
  exact ⟨rfl, hB1⟩
set_option maxHeartbeats 4000000 in
theorem ck_rszL (id : Int) (lo : Bool) (sz : Int) (a : Option Addr) (len cap : Nat) (w : World) (hS : SizesAt w) (hlb : (len : Int) ≤ 9223372036854775807) (h0 : 0 ≤ id) (h2 : id ≤ topI lo) (h3 : sz < 0) (hl : (len : Int) ≤ 0) :
    Calls Tryd.prog 22 #[frameV id lo false true sz a len cap] w fun e w' => e = .returned (.int .i64 3) ∧ Below w.heap.size w w' := by
  have hd0 : decide (id < 0) = false := by simp; omega
  have hB := below_box w id lo false true sz a len cap
  have hK := FrAt.box w id lo false true sz a len cap
  unfold frameC at hB hK
  unfold frameV
  go_enter Tryd.func22, Tryd.ntmps22
  go_wp2_with fail
  go_quiet ((go_at_call 46; refine Calls.quiet_of_same (maxID_any lo _)))
  obtain ⟨W1, hW1⟩ : ∃ W1, W1 = (w.alloc (.cells #[.int .i64 id, .bool lo, .bool false, .bool true, .int .i64 sz, .slice a len cap] 33)).drewN nq := ⟨_, rfl⟩
  have hB1 : Below w.heap.size w W1 := by rw [hW1]; exact below_dr hB nq
  have hK1 : FrAt W1 w.heap.size id lo false true sz a len cap := by rw [hW1]; exact hK.kept ⟨rfl, rfl, rfl, Nat.le_refl _, fun _ _ => rfl⟩
  rw [← hW1]
  obtain ⟨k0, k1, k2, k3, k4, k5⟩ := hK1
  clear hB hK hW1
  clear hS
  go_wp2_with fail
  go_ret
  exact ⟨rfl, hB1⟩
set_option maxHeartbeats 4000000 in
theorem ck_rszH (id : Int) (lo : Bool) (sz : Int) (a : Option Addr) (len cap : Nat) (w : World) (hS : SizesAt w) (hlb : (len : Int) ≤ 9223372036854775807) (h0 : 0 ≤ id) (h2 : id ≤ topI lo) (h3 : 8 < sz) (hl : (len : Int) ≤ 0) :
    Calls Tryd.prog 22 #[frameV id lo false true sz a len cap] w fun e w' => e = .returned (.int .i64 3) ∧ Below w.heap.size w w' := by
  have hd0 : decide (id < 0) = false := by simp; omega
  have hB := below_box w id lo false true sz a len cap
  have hK := FrAt.box w id lo false true sz a len cap
  unfold frameC at hB hK
  unfold frameV
  go_enter Tryd.func22, Tryd.ntmps22
  go_wp2_with fail
  go_quiet ((go_at_call 46; refine Calls.quiet_of_same (maxID_any lo _)))
  obtain ⟨W1, hW1⟩ : ∃ W1, W1 = (w.alloc (.cells #[.int .i64 id, .bool lo, .bool false, .bool true, .int .i64 sz, .slice a len cap] 33)).drewN nq := ⟨_, rfl⟩
  have hB1 : Below w.heap.size w W1 := by rw [hW1]; exact below_dr hB nq
  have hK1 : FrAt W1 w.heap.size id lo false true sz a len cap := by rw [hW1]; exact hK.kept ⟨rfl, rfl, rfl, Nat.le_refl _, fun _ _ => rfl⟩
  rw [← hW1]
  obtain ⟨k0, k1, k2, k3, k4, k5⟩ := hK1
  clear hB hK hW1
  clear hS
  go_wp2_with fail
  go_ret
  exact ⟨rfl, hB1⟩
set_option maxHeartbeats 4000000 in
theorem ck_many (id : Int) (lo fa : Bool) (a : Option Addr) (len cap : Nat) (w : World) (hS : SizesAt w) (hlb : (len : Int) ≤ 9223372036854775807) (h0 : 0 ≤ id) (h2 : id ≤ topI lo) (h3 : topDI fa < (len : Int)) :
    Calls Tryd.prog 22 #[frameV id lo fa false 0 a len cap] w fun e w' => e = .returned (.int .i64 2) ∧ Below w.heap.size w w' := by
  have hd0 : decide (id < 0) = false := by simp; omega
  have hB := below_box w id lo fa false 0 a len cap
  have hK := FrAt.box w id lo fa false 0 a len cap
  unfold frameC at hB hK
  unfold frameV
  go_enter Tryd.func22, Tryd.ntmps22
  go_wp2_with fail
  go_quiet ((go_at_call 46; refine Calls.quiet_of_same (maxID_any lo _)))
  obtain ⟨W1, hW1⟩ : ∃ W1, W1 = (w.alloc (.cells #[.int .i64 id, .bool lo, .bool fa, .bool false, .int .i64 0, .slice a len cap] 33)).drewN nq := ⟨_, rfl⟩
  have hB1 : Below w.heap.size w W1 := by rw [hW1]; exact below_dr hB nq
  have hK1 : FrAt W1 w.heap.size id lo fa false 0 a len cap := by rw [hW1]; exact hK.kept ⟨rfl, rfl, rfl, Nat.le_refl _, fun _ _ => rfl⟩
  rw [← hW1]
  obtain ⟨k0, k1, k2, k3, k4, k5⟩ := hK1
  clear hB hK hW1
  clear hS
  go_wp2_with fail
  go_quiet ((go_at_call 47; refine Calls.quiet_of_same (maxData_any fa _)))
  obtain ⟨W2, hW2⟩ : ∃ W2, W2 = W1.drewN nq := ⟨_, rfl⟩
  have hB2 : Below w.heap.size w W2 := by rw [hW2]; exact below_dr hB1 nq
  have j5 : W2.cell? ⟨w.heap.size, 5, none⟩ = some (.slice a len cap) := by rw [hW2]; exact k5
  rw [← hW2]
  clear hB1 hW2 k0 k1 k2 k3 k4 k5
  go_wp2_with fail
  go_ret
  exact ⟨rfl, hB2⟩
set_option maxHeartbeats 4000000 in
theorem ck_form (id : Int) (lo fa : Bool) (a : Option Addr) (len cap : Nat) (w : World) (hS : SizesAt w) (hlb : (len : Int) ≤ 9223372036854775807) (h0 : 0 ≤ id) (h2 : id ≤ topI lo) (h3 : (len : Int) ≤ topDI fa) (hq : idxI sizesI (len : Int) < 0) :
    Calls Tryd.prog 22 #[frameV id lo fa false 0 a len cap] w fun e w' => e = .returned (.int .i64 4) ∧ Below w.heap.size w w' := by
  have hd0 : decide (id < 0) = false := by simp; omega
  have hB := below_box w id lo fa false 0 a len cap
  have hK := FrAt.box w id lo fa false 0 a len cap
  unfold frameC at hB hK
  unfold frameV
  go_enter Tryd.func22, Tryd.ntmps22
  go_wp2_with fail
  go_quiet ((go_at_call 46; refine Calls.quiet_of_same (maxID_any lo _)))
  obtain ⟨W1, hW1⟩ : ∃ W1, W1 = (w.alloc (.cells #[.int .i64 id, .bool lo, .bool fa, .bool false, .int .i64 0, .slice a len cap] 33)).drewN nq := ⟨_, rfl⟩
  have hB1 : Below w.heap.size w W1 := by rw [hW1]; exact below_dr hB nq
  have hK1 : FrAt W1 w.heap.size id lo fa false 0 a len cap := by rw [hW1]; exact hK.kept ⟨rfl, rfl, rfl, Nat.le_refl _, fun _ _ => rfl⟩
  rw [← hW1]
  obtain ⟨k0, k1, k2, k3, k4, k5⟩ := hK1
  clear hB hK hW1
  go_wp2_with fail
  go_quiet ((go_at_call 47; refine Calls.quiet_of_same (maxData_any fa _)))
  obtain ⟨W2, hW2⟩ : ∃ W2, W2 = W1.drewN nq := ⟨_, rfl⟩
  have hB2 : Below w.heap.size w W2 := by rw [hW2]; exact below_dr hB1 nq
  have j5 : W2.cell? ⟨w.heap.size, 5, none⟩ = some (.slice a len cap) := by rw [hW2]; exact k5
  rw [← hW2]
  clear hB1 hW2 k0 k1 k2 k3 k4 k5
  have HS := Hid.mk (hS.kept hB2)
  go_wp2_with fail
  refine (codeOf_any (len : Int) W2 HS.out).mono ?_
  rintro e w1 ⟨rfl, hw⟩
  subst hw
  go_wp2_with fail
  go_ret
  exact ⟨rfl, hB2⟩
set_option maxHeartbeats 4000000 in
theorem ck_ok (id : Int) (lo fa : Bool) (a : Option Addr) (len cap : Nat) (w : World) (hS : SizesAt w) (hlb : (len : Int) ≤ 9223372036854775807) (h0 : 0 ≤ id) (h2 : id ≤ topI lo) (h3 : (len : Int) ≤ topDI fa) (hq : 0 ≤ idxI sizesI (len : Int)) :
    Calls Tryd.prog 22 #[frameV id lo fa false 0 a len cap] w fun e w' => e = .returned (.int .i64 0) ∧ Below w.heap.size w w' := by
  have hd0 : decide (id < 0) = false := by simp; omega
  have hB := below_box w id lo fa false 0 a len cap
  have hK := FrAt.box w id lo fa false 0 a len cap
  unfold frameC at hB hK
  unfold frameV
  go_enter Tryd.func22, Tryd.ntmps22
  go_wp2_with fail
  go_quiet ((go_at_call 46; refine Calls.quiet_of_same (maxID_any lo _)))
  obtain ⟨W1, hW1⟩ : ∃ W1, W1 = (w.alloc (.cells #[.int .i64 id, .bool lo, .bool fa, .bool false, .int .i64 0, .slice a len cap] 33)).drewN nq := ⟨_, rfl⟩
  have hB1 : Below w.heap.size w W1 := by rw [hW1]; exact below_dr hB nq
  have hK1 : FrAt W1 w.heap.size id lo fa false 0 a len cap := by rw [hW1]; exact hK.kept ⟨rfl, rfl, rfl, Nat.le_refl _, fun _ _ => rfl⟩
  rw [← hW1]
  obtain ⟨k0, k1, k2, k3, k4, k5⟩ := hK1
  clear hB hK hW1
  go_wp2_with fail
  go_quiet ((go_at_call 47; refine Calls.quiet_of_same (maxData_any fa _)))
  obtain ⟨W2, hW2⟩ : ∃ W2, W2 = W1.drewN nq := ⟨_, rfl⟩
  have hB2 : Below w.heap.size w W2 := by rw [hW2]; exact below_dr hB1 nq
  have j5 : W2.cell? ⟨w.heap.size, 5, none⟩ = some (.slice a len cap) := by rw [hW2]; exact k5
  rw [← hW2]
  clear hB1 hW2 k0 k1 k2 k3 k4 k5
  have HS := Hid.mk (hS.kept hB2)
  go_wp2_with fail
  refine (codeOf_any (len : Int) W2 HS.out).mono ?_
  rintro e w1 ⟨rfl, hw⟩
  subst hw
  go_wp2_with fail
  go_ret
  exact ⟨rfl, hB2⟩
set_option maxHeartbeats 4000000 in
theorem ck_rok0 (id : Int) (lo : Bool) (a : Option Addr) (len cap : Nat) (w : World) (hS : SizesAt w) (hlb : (len : Int) ≤ 9223372036854775807) (h0 : 0 ≤ id) (h2 : id ≤ topI lo) (hl : (len : Int) ≤ 0) (hq : 0 ≤ idxI sizesI (len : Int)) :
    Calls Tryd.prog 22 #[frameV id lo false true 0 a len cap] w fun e w' => e = .returned (.int .i64 0) ∧ Below w.heap.size w w' := by
  have hd0 : decide (id < 0) = false := by simp; omega
  have hB := below_box w id lo false true 0 a len cap
  have hK := FrAt.box w id lo false true 0 a len cap
  unfold frameC at hB hK
  unfold frameV
  go_enter Tryd.func22, Tryd.ntmps22
  go_wp2_with fail
  go_quiet ((go_at_call 46; refine Calls.quiet_of_same (maxID_any lo _)))
  obtain ⟨W1, hW1⟩ : ∃ W1, W1 = (w.alloc (.cells #[.int .i64 id, .bool lo, .bool false, .bool true, .int .i64 0, .slice a len cap] 33)).drewN nq := ⟨_, rfl⟩
  have hB1 : Below w.heap.size w W1 := by rw [hW1]; exact below_dr hB nq
  have hK1 : FrAt W1 w.heap.size id lo false true 0 a len cap := by rw [hW1]; exact hK.kept ⟨rfl, rfl, rfl, Nat.le_refl _, fun _ _ => rfl⟩
  rw [← hW1]
  obtain ⟨k0, k1, k2, k3, k4, k5⟩ := hK1
  clear hB hK hW1
  have h5 : (len : Int) ≤ topDI false := by simp only [topDI]; simp; omega
  go_wp2_with fail
  go_quiet ((go_at_call 47; refine Calls.quiet_of_same (maxData_any false _)))
  obtain ⟨W2, hW2⟩ : ∃ W2, W2 = W1.drewN nq := ⟨_, rfl⟩
  have hB2 : Below w.heap.size w W2 := by rw [hW2]; exact below_dr hB1 nq
  have j5 : W2.cell? ⟨w.heap.size, 5, none⟩ = some (.slice a len cap) := by rw [hW2]; exact k5
  rw [← hW2]
  clear hB1 hW2 k0 k1 k2 k3 k4 k5
  have HS := Hid.mk (hS.kept hB2)
  go_wp2_with fail
  refine (codeOf_any (len : Int) W2 HS.out).mono ?_
  rintro e w1 ⟨rfl, hw⟩
  subst hw
  go_wp2_with fail
  go_ret
  exact ⟨rfl, hB2⟩
set_option maxHeartbeats 4000000 in
theorem ck_rok1 (id : Int) (lo : Bool) (sz : Int) (a : Option Addr) (len cap : Nat) (w : World) (hS : SizesAt w) (hlb : (len : Int) ≤ 9223372036854775807) (h0 : 0 ≤ id) (h2 : id ≤ topI lo) (h3 : 0 < sz) (h4 : sz ≤ 8) (hl : (len : Int) ≤ 0) (hq : 0 ≤ idxI sizesI (len : Int)) :
    Calls Tryd.prog 22 #[frameV id lo false true sz a len cap] w fun e w' => e = .returned (.int .i64 0) ∧ Below w.heap.size w w' := by
  have hd0 : decide (id < 0) = false := by simp; omega
  have hB := below_box w id lo false true sz a len cap
  have hK := FrAt.box w id lo false true sz a len cap
  unfold frameC at hB hK
  unfold frameV
  have h6 : (sz != 0) = true := by simp; omega
  go_enter Tryd.func22, Tryd.ntmps22
  go_wp2_with fail
  go_quiet ((go_at_call 46; refine Calls.quiet_of_same (maxID_any lo _)))
  obtain ⟨W1, hW1⟩ : ∃ W1, W1 = (w.alloc (.cells #[.int .i64 id, .bool lo, .bool false, .bool true, .int .i64 sz, .slice a len cap] 33)).drewN nq := ⟨_, rfl⟩
  have hB1 : Below w.heap.size w W1 := by rw [hW1]; exact below_dr hB nq
  have hK1 : FrAt W1 w.heap.size id lo false true sz a len cap := by rw [hW1]; exact hK.kept ⟨rfl, rfl, rfl, Nat.le_refl _, fun _ _ => rfl⟩
  rw [← hW1]
  obtain ⟨k0, k1, k2, k3, k4, k5⟩ := hK1
  clear hB hK hW1
  have h5 : (len : Int) ≤ topDI false := by simp only [topDI]; simp; omega
  go_wp2_with fail
  go_quiet ((go_at_call 47; refine Calls.quiet_of_same (maxData_any false _)))
  obtain ⟨W2, hW2⟩ : ∃ W2, W2 = W1.drewN nq := ⟨_, rfl⟩
  have hB2 : Below w.heap.size w W2 := by rw [hW2]; exact below_dr hB1 nq
  have j5 : W2.cell? ⟨w.heap.size, 5, none⟩ = some (.slice a len cap) := by rw [hW2]; exact k5
  rw [← hW2]
  clear hB1 hW2 k0 k1 k2 k3 k4 k5
  have HS := Hid.mk (hS.kept hB2)
  go_wp2_with fail
  refine (codeOf_any (len : Int) W2 HS.out).mono ?_
  rintro e w1 ⟨rfl, hw⟩
  subst hw
  go_wp2_with fail
  go_ret
  exact ⟨rfl, hB2⟩
theorem frCheck_any (id : Int) (lo fa re : Bool) (sz : Int) (a : Option Addr) (len cap : Nat) (w : World) (hS : SizesAt w) (hl : len ≤ maxLen) :
    Calls Tryd.prog 22 #[frameV id lo fa re sz a len cap] w fun e w' => e = .returned (.int .i64 (frEn id lo fa re sz len)) ∧ Below w.heap.size w w' := by
  have hneg := idx_neg len
  have hlb : (len : Int) ≤ 9223372036854775807 := by unfold maxLen at hl; omega
  unfold frEn
  by_cases h1 : id < 0 ∨ topI lo < id
  · rw [if_pos h1]
    by_cases h0 : id < 0
    · exact ck_low id lo fa re sz a len cap w h0
    · exact ck_high id lo fa re sz a len cap w (by omega) (by omega)
  · rw [if_neg h1]
    have h0 : 0 ≤ id := by omega
    have h2 : id ≤ topI lo := by omega
    cases re
    · rw [if_neg (by simp)]
      by_cases h5 : sz < 0 ∨ 8 < sz ∨ (0 < sz ∧ false = false)
      · rw [if_pos h5]
        by_cases h6 : sz < 0
        · exact ck_szL id lo fa sz a len cap w hS hlb h0 h2 h6
        · by_cases h7 : 8 < sz
          · exact ck_szH id lo fa sz a len cap w hS hlb h0 h2 h7
          · exact ck_szN id lo fa sz a len cap w hS hlb h0 h2 (by simp at h5; omega) (by omega)
      · rw [if_neg h5]
        obtain rfl : sz = 0 := by simp at h5; omega
        by_cases h9 : 64 < len ∨ (8 < len ∧ fa = false)
        · rw [if_pos h9]
          exact ck_many id lo fa a len cap w hS hlb h0 h2 (by cases fa <;> simp [topDI] at h9 ⊢ <;> omega)
        · rw [if_neg h9]
          have h10 : (len : Int) ≤ topDI fa := by cases fa <;> simp [topDI] at h9 ⊢ <;> omega
          by_cases hm : len ∈ sizesL
          · rw [if_pos hm]
            exact ck_ok id lo fa a len cap w hS hlb h0 h2 h10 (by rcases Int.lt_or_le (idxI sizesI (len : Int)) 0 with h | h; exact absurd hm (hneg.1 h); exact h)
          · rw [if_neg hm]
            exact ck_form id lo fa a len cap w hS hlb h0 h2 h10 (hneg.2 hm)
    · cases fa
      · by_cases hlen : len = 0
        · subst hlen
          rw [if_neg (by simp)]
          by_cases h5 : sz < 0 ∨ 8 < sz ∨ (0 < sz ∧ true = false)
          · rw [if_pos h5]
            by_cases h6 : sz < 0
            · exact ck_rszL id lo sz a 0 cap w hS hlb h0 h2 h6 (by simp)
            · exact ck_rszH id lo sz a 0 cap w hS hlb h0 h2 (by simp at h5; omega) (by simp)
          · rw [if_neg h5, if_neg (by simp), if_pos (by decide)]
            by_cases hz : sz = 0
            · subst hz
              exact ck_rok0 id lo a 0 cap w hS hlb h0 h2 (by simp) (by decide)
            · exact ck_rok1 id lo sz a 0 cap w hS hlb h0 h2 (by omega) (by omega) (by simp) (by decide)
        · rw [if_pos ⟨rfl, .inr hlen⟩]
          exact ck_remD id lo sz a len cap w hS hlb h0 h2 (by omega)
      · rw [if_pos ⟨rfl, .inl rfl⟩]
        exact ck_remF id lo sz a len cap w hS hlb h0 h2
end Bw
end Go.Proofs.YtihiboccibidgacDoor

/- What frame.name and form answer. -/
namespace Go.Proofs.YtihiboccibidgacDoor
open Go.ChangeShapes Go.WideShapes Go.ChangeAt Go.RowKit
namespace Bw
open Bm Cm

theorem head_take (n : Nat) : bitsHead (n / 262144) 11 11 = (bitsHead n 29 29).take 11 := by
  unfold bitsHead
  rw [← List.map_take, List.take_range]
  apply List.map_congr_left
  intro i hi
  have hi' : i < 11 := by simpa using hi
  unfold bitAt
  have e : n / 262144 / 2 ^ (11 - 1 - i) = n / 2 ^ (29 - 1 - i) := by
    rw [Nat.div_div_eq_div_mul, show (262144 : Nat) = 2 ^ 18 by rfl, ← Nat.pow_add, show 18 + (11 - 1 - i) = 29 - 1 - i by omega]
  rw [e]
theorem head_drop (n : Nat) : bitsHead (n % 262144) 18 18 = (bitsHead n 29 29).drop 11 := by
  apply List.ext_getElem
  · simp [bitsHead_length]
  intro i h1 h2
  have hi : i < 18 := by simpa [bitsHead_length] using h1
  simp only [bitsHead, List.getElem_map, List.getElem_drop, List.getElem_range]
  unfold bitAt
  have e : n % 262144 / 2 ^ (18 - 1 - i) % 2 = n / 2 ^ (29 - 1 - (11 + i)) % 2 := by
    rw [show 29 - 1 - (11 + i) = 18 - 1 - i by omega, show (262144 : Nat) = 2 ^ 18 by rfl]
    have h := Nat.testBit_mod_two_pow n 18 (18 - 1 - i)
    have hd : decide (18 - 1 - i < 18) = true := by simp; omega
    rw [hd, Bool.true_and, Nat.testBit_eq_decide_div_mod_eq, Nat.testBit_eq_decide_div_mod_eq] at h
    have h' : (n % 2 ^ 18 / 2 ^ (18 - 1 - i) % 2 = 1) ↔ (n / 2 ^ (18 - 1 - i) % 2 = 1) := by simpa using h
    omega
  rw [e]
theorem and_low (n : Nat) (h : n < 2 ^ 29) : bits .and .i64 (n : Int) 262143 = ((n % 262144 : Nat) : Int) := by
  have := bits_mask .i64 63 (by decide) (fun n h0 h1 => by rw [IntKind.wrap_i64]; omega) 18 (by decide) (n : Int) (by omega) (by omega)
  simpa using this

set_option maxHeartbeats 4000000 in
theorem name_shortP (n : Nat) (fa re : Bool) (sz : Int) (a : Option Addr) (len cap : Nat) (w : World) (hn : n < 2 ^ 11) :
    Calls Tryd.prog 49 #[frameV n false fa re sz a len cap] w fun e w' => e = .returned (.string ⟨(bitsHead n 11 11 ++ [bitB re, 48]).toArray⟩) ∧ Below w.heap.size w w' := by
  have hB := below_box w n false fa re sz a len cap
  have hK := FrAt.box w n false fa re sz a len cap
  unfold frameC at hB hK
  unfold frameV
  have hr := fun W => row_ok n 11 W (by omega) hn
  have hS := mk_list (bitsHead n 11 11)
  generalize ByteArray.mk (bitsHead n 11 11).toArray = S at *
  have hSs : S.size ≤ 11 := by rw [ba_size hS, bitsHead_length]; exact Nat.le_refl _
  have hBs : (ByteArray.mk #[bitB re]).size = 1 := rfl
  have hbl : (ByteArray.mk #[bitB re]).data.toList = [bitB re] := rfl
  have hfb := fun W => frBit_any re W
  generalize ByteArray.mk #[bitB re] = B at *
  have hBm : B.size ≤ 1 := by omega
  have HSL := Hid.mk hS
  have HR := Hid.mk hr
  have HBL := Hid.mk hbl
  have HFB := Hid.mk hfb
  have HK := Hid.mk hK
  clear hr hn hS hbl hfb hBs hK
  go_enter Tryd.func49, Tryd.ntmps49
  go_wp2_with fail
  refine (HR.out _).mono ?_
  rintro e w1 ⟨rfl, hb1⟩
  have hbel1 := bl2 hB hb1
  have k3 := (HK.out.kept hb1).c3
  clear hB hb1 HR HK
  go_wp2_with fail
  refine (HFB.out _).mono ?_
  rintro e w2 ⟨rfl, hw⟩
  subst hw
  go_wp2_with fail
  go_ret
  exact ⟨ret_str1 (by rw [ba_cat, ba_cat, HSL.out, HBL.out]; simp), hbel1⟩
set_option maxHeartbeats 4000000 in
theorem name_longP (n : Nat) (fa re : Bool) (sz : Int) (a : Option Addr) (len cap : Nat) (w : World) (hn : n < 2 ^ 29) :
    Calls Tryd.prog 49 #[frameV n true fa re sz a len cap] w fun e w' => e = .returned (.string ⟨((bitsHead n 29 29).take 11 ++ [49, 49] ++ (bitsHead n 29 29).drop 11 ++ [bitB re]).toArray⟩) ∧ Below w.heap.size w w' := by
  have hB := below_box w n true fa re sz a len cap
  have hK := FrAt.box w n true fa re sz a len cap
  unfold frameC at hB hK
  unfold frameV
  have hr := fun W => row_ok (n / 262144) 11 W (by omega) (by omega)
  have hr2 := fun W => row_ok (n % 262144) 18 W (by omega) (by omega)
  have e1 : (n : Int) / 262144 = ((n / 262144 : Nat) : Int) := by omega
  have e2 := and_low n hn
  rw [← e1] at hr
  rw [← e2] at hr2
  have hS := mk_list (bitsHead (n / 262144) 11 11)
  generalize ByteArray.mk (bitsHead (n / 262144) 11 11).toArray = S at *
  have hSs : S.size ≤ 11 := by rw [ba_size hS, bitsHead_length]; exact Nat.le_refl _
  have hS2 := mk_list (bitsHead (n % 262144) 18 18)
  generalize ByteArray.mk (bitsHead (n % 262144) 18 18).toArray = S2 at *
  have hSs2 : S2.size ≤ 18 := by rw [ba_size hS2, bitsHead_length]; exact Nat.le_refl _
  have hBs : (ByteArray.mk #[bitB re]).size = 1 := rfl
  have hbl : (ByteArray.mk #[bitB re]).data.toList = [bitB re] := rfl
  have hfb := fun W => frBit_any re W
  generalize ByteArray.mk #[bitB re] = B at *
  have hBm : B.size ≤ 1 := by omega
  rw [head_take] at hS
  rw [head_drop] at hS2
  have HSL := Hid.mk hS
  have HSL2 := Hid.mk hS2
  have HR := Hid.mk hr
  have HR2 := Hid.mk hr2
  have HBL := Hid.mk hbl
  have HFB := Hid.mk hfb
  have HK := Hid.mk hK
  clear hr hr2 hn hS hS2 hbl hfb hBs hK e1 e2
  go_enter Tryd.func49, Tryd.ntmps49
  go_wp2_with fail
  refine (HR.out _).mono ?_
  rintro e w1 ⟨rfl, hb1⟩
  have hbel1 := bl2 hB hb1
  have k0 := (HK.out.kept hb1).c0
  have HK1 := Hid.mk (HK.out.kept hb1)
  clear hB hb1 HR HK
  go_wp2_with fail
  refine (HR2.out _).mono ?_
  rintro e w2 ⟨rfl, hb2⟩
  have hbel2 := bl2 hbel1 hb2
  have k3 := (HK1.out.kept hb2).c3
  clear hbel1 hb2 HR2 HK1 k0
  go_wp2_with fail
  refine (HFB.out _).mono ?_
  rintro e w3 ⟨rfl, hw⟩
  subst hw
  go_wp2_with fail
  go_ret
  exact ⟨ret_str1 (by rw [ba_cat, ba_cat, ba_cat, HSL.out, HSL2.out, HBL.out]), hbel2⟩
theorem name_any (f : Fr) (a : Option Addr) (len cap : Nat) (w : World) (h0 : 0 ≤ f.id) (h1 : f.id ≤ topI f.lo) :
    Calls Tryd.prog 49 #[frameV f.id f.lo f.fa f.re f.sz a len cap] w fun e w' => e = .returned (.string ⟨(nameL f).toArray⟩) ∧ Below w.heap.size w w' := by
  obtain ⟨id, lo, fa, re, sz, dt⟩ := f
  obtain ⟨n, rfl⟩ : ∃ n : Nat, id = (n : Int) := ⟨id.toNat, by simp only at h0; omega⟩
  simp only at h0 h1 ⊢
  cases lo
  · exact name_shortP n fa re sz a len cap w (by simp [topI] at h1; omega)
  · exact name_longP n fa re sz a len cap w (by simp [topI] at h1; omega)

set_option maxHeartbeats 2000000 in
theorem form_any (f : Fr) (a : Option Addr) (len cap : Nat) (w : World) :
    Calls Tryd.prog 50 #[frameV f.id f.lo f.fa f.re f.sz a len cap] w fun e w' => e = .returned (.string ⟨(midL f).toArray⟩) ∧ Below w.heap.size w w' := by
  have hB := below_box w f.id f.lo f.fa f.re f.sz a len cap
  unfold frameC at hB
  unfold frameV midL
  obtain ⟨id, lo, fa, re, sz, dt⟩ := f
  simp only at hB ⊢
  cases fa <;> cases lo
  all_goals focus
    go_enter Tryd.func50, Tryd.ntmps50
    go_wp2_with fail
    go_ret
    exact ⟨rfl, hB⟩
end Bw
end Go.Proofs.YtihiboccibidgacDoor

/- What frame.head answers of a right frame. -/
namespace Go.Proofs.YtihiboccibidgacDoor
open Go.ChangeShapes Go.WideShapes Go.ChangeAt Go.RowKit
namespace Bw
open Bm Cm Go.Sort

theorem sizes_low (n : Nat) (h : n ≤ 8) : n ∈ sizesL ∧ sizesL.idxOf n = n := by
  have : ∀ m : Fin 9, m.val ∈ sizesL ∧ sizesL.idxOf m.val = m.val := by decide +kernel
  exact this ⟨n, by omega⟩
/-- the number that tells the code -/
def sizeI (f : Fr) : Int := if f.re then f.sz else (f.dt.length : Int)
theorem code_idx {f : Fr} (hE : frE f = 0) : idxI sizesI (sizeI f) = (codeN f : Int) ∧ codeN f < 2 ^ 4 := by
  obtain ⟨-, -, e3, e4, e5, e6, e7, e8, e9⟩ := frE_ok hE
  unfold sizeI codeN
  cases hre : f.re
  · exact idx_sizes e9
  · have h := sizes_low f.sz.toNat (by omega)
    have h2 := idx_sizes h.1
    rw [h.2] at h2
    simp only [if_true]
    rw [show ((f.sz.toNat : Nat) : Int) = f.sz by omega] at h2
    exact ⟨by rw [h2.1]; omega, h2.2⟩
theorem FrAt.regrown {w : World} {g : Nat} {id : Int} {lo fa re : Bool} {sz : Int} {a : Option Addr} {len cap : Nat} (h : FrAt w g id lo fa re sz a len cap) (d : Nat) (os : Array Obj) : FrAt (grow (redrawn w d) os) g id lo fa re sz a len cap :=
  ⟨cell_regrown h.c0 d os, cell_regrown h.c1 d os, cell_regrown h.c2 d os, cell_regrown h.c3 d os, cell_regrown h.c4 d os, cell_regrown h.c5 d os⟩

set_option maxHeartbeats 8000000 in
theorem head_any (f : Fr) (a : Option Addr) (len cap : Nat) (w : World) (hS : SizesAt w) (hE : frE f = 0) (hr : IsBytes w a len cap f.dt) :
    Calls Tryd.prog 23 #[frameV f.id f.lo f.fa f.re f.sz a len cap] w fun e w' => e = .returned (.string ⟨(headL f).toArray⟩) ∧ Below w.heap.size w w' := by
  obtain ⟨e1, e2, e3, e4, e5, e6, e7, e8, e9⟩ := frE_ok hE
  have hdl : f.dt.length = len := hr.1
  obtain ⟨hix, hcode⟩ := code_idx hE
  have hB := below_box w f.id f.lo f.fa f.re f.sz a len cap
  have hK := FrAt.box w f.id f.lo f.fa f.re f.sz a len cap
  unfold frameC at hB hK
  have hnm := fun W => name_any f a len cap W e1 e2
  have hfm := fun W => form_any f a len cap W
  unfold frameV at hnm hfm ⊢
  have hco := fun W hW => codeOf_any (sizeI f) W hW
  rw [hix] at hco
  have hro := fun W => row_ok (codeN f) 4 W (by omega) hcode
  have hof := fun W hB => of_any a len cap f.dt W (by omega) hB
  have hNl := mk_list (nameL f)
  have hNs := nameL_len f
  have hMl := mk_list (midL f)
  have hMs := midL_len f
  have hRl := mk_list (bitsHead (codeN f) 4 4)
  have hOl := mk_list (ofL f.dt)
  have hOs : (ofL f.dt).length ≤ 512 := by rw [ofL_length]; omega
  have hfin : headL f = [48] ++ nameL f ++ midL f ++ bitsHead (codeN f) 4 4 ++ ofL f.dt := rfl
  generalize ByteArray.mk (nameL f).toArray = NM at *
  generalize ByteArray.mk (midL f).toArray = MD at *
  generalize ByteArray.mk (bitsHead (codeN f) 4 4).toArray = CD at *
  generalize ByteArray.mk (ofL f.dt).toArray = OF at *
  have z1 : NM.size ≤ 32 := by rw [ba_size hNl, hNs]; split <;> omega
  have z2 : MD.size ≤ 4 := by rw [ba_size hMl]; omega
  have z3 : CD.size ≤ 4 := by rw [ba_size hRl, bitsHead_length]; exact Nat.le_refl _
  have z4 : OF.size ≤ 512 := by rw [ba_size hOl]; exact hOs
  have HS := Hid.mk (hS.kept hB)
  have HBY := Hid.mk (isBytes_below hr hB)
  have HNM := Hid.mk hnm
  have HFM := Hid.mk hfm
  have HCO := Hid.mk hco
  have HRO := Hid.mk hro
  have HOF := Hid.mk hof
  have HK := Hid.mk hK
  have HFIN := Hid.mk hfin
  have HL := Hid.mk (And.intro hNl (And.intro hMl (And.intro hRl hOl)))
  have hlen : (len : Int) ≤ 64 := by omega
  have hsi : sizeI f = if f.re then f.sz else (len : Int) := by unfold sizeI; rw [hdl]
  have HSI := Hid.mk hsi
  clear hS hr hnm hfm hco hro hof hNl hNs hMl hMs hRl hOl hOs hfin hK e1 e2 e3 e4 e5 e6 e7 e8 e9 hE hix hcode hdl hsi
  generalize codeN f = cn at *
  generalize sizeI f = si at *
  cases hre : f.re
  all_goals
    rw [hre] at HNM HFM HK hB HSI HS HBY
    have hsi := HSI.out
    simp only [Bool.false_eq_true, if_false, if_true] at hsi
    subst hsi
    go_enter Tryd.func23, Tryd.ntmps23
    go_wp2_with fail
    refine (HCO.out _ HS.out).mono ?_
    rintro e w1 ⟨rfl, hw1⟩
    subst hw1
    go_wp2_with fail
    refine (HRO.out _).mono ?_
    rintro e w2 ⟨rfl, hb2⟩
    have hbel2 := bl2 hB hb2
    have HBY2 := Hid.mk (isBytes_below HBY.out hb2)
    have HK2 := Hid.mk (HK.out.kept hb2)
    have k5 := HK2.out.c5
    clear hB hb2 HBY HK HCO HRO HS
    go_wp2_with fail
    refine (HOF.out _ HBY2.out).mono ?_
    rintro e w3 ⟨rfl, hb3⟩
    have hbel3 := bl2 hbel2 hb3
    have HK3 := Hid.mk (HK2.out.kept hb3)
    clear hbel2 hb3 HBY2 HK2 k5 HOF
    have r0 := fun d os => (HK3.out.regrown d os).c0
    have r1 := fun d os => (HK3.out.regrown d os).c1
    have r2 := fun d os => (HK3.out.regrown d os).c2
    have r3 := fun d os => (HK3.out.regrown d os).c3
    have r4 := fun d os => (HK3.out.regrown d os).c4
    have r5 := fun d os => (HK3.out.regrown d os).c5
    go_wp2_with fail
    refine wp_region_quiet_below (by kernel_rfl) (by kernel_rfl) ?_
    set_option maxRecDepth 100000 in
    repeat (go_big_quiet_step (first
      | (go_at_call 49; exact Calls.regrown_of (HNM.out _))
      | (go_at_call 50; exact Calls.regrown_of (HFM.out _))))
    refine wpQuiet_nil ?_
    intro _ hw'
    obtain ⟨⟨dq, osq⟩, hw''⟩ := hw'
    subst hw''
    have hbq := bl2 hbel3 (below_regrown w3 dq osq)
    clear r0 r1 r2 r3 r4 r5 hbel3
    go_wp2_with fail
    go_ret
    obtain ⟨l1, l2, l3, l4⟩ := HL.out
    exact ⟨ret_str1 (by rw [HFIN.out, ba_cat, ba_cat, ba_cat, ba_cat, l1, l2, l3, l4]), hbq⟩
end Bw
end Go.Proofs.YtihiboccibidgacDoor

/- What frame.Bits answers of any frame. -/
namespace Go.Proofs.YtihiboccibidgacDoor
open Go.ChangeShapes Go.WideShapes Go.ChangeAt Go.RowKit
namespace Bw
open Bm Cm

def bitsA (f : Fr) : Value := if frE f = 0 then .tuple #[.string ⟨(bitsL f).toArray⟩, .int .i64 0] else .tuple #[.string ⟨#[]⟩, .int .i64 (frE f)]
set_option maxHeartbeats 4000000 in
theorem frBits_bad (f : Fr) (a : Option Addr) (len cap : Nat) (w : World) (hS : SizesAt w) (hl : len ≤ maxLen) (hd : f.dt.length = len) (hE : frE f ≠ 0) :
    Calls Tryd.prog 14 #[frameV f.id f.lo f.fa f.re f.sz a len cap] w fun e w' => e = .returned (.tuple #[.string ⟨#[]⟩, .int .i64 (frE f)]) ∧ Below w.heap.size w w' := by
  have hB := below_box w f.id f.lo f.fa f.re f.sz a len cap
  have hck := frCheck_any f.id f.lo f.fa f.re f.sz a len cap _ (hS.kept hB) hl
  have hE' : frEn f.id f.lo f.fa f.re f.sz len = frE f := by unfold frE; rw [hd]
  rw [hE'] at hck
  unfold frameC at hB hck
  unfold frameV at hck ⊢
  have HCK := Hid.mk hck
  have hne : (frE f != 0) = true := by simpa using hE
  clear hS hl hd hck hE' hE
  generalize frE f = ce at *
  go_enter Tryd.func14, Tryd.ntmps14
  go_wp2_with fail
  refine HCK.out.mono ?_
  rintro e w1 ⟨rfl, hb1⟩
  have hbel1 := bl2 hB hb1
  clear hB hb1
  go_wp2_with fail
  go_ret2
  exact ⟨rfl, hbel1⟩
set_option maxHeartbeats 8000000 in
theorem frBits_ok (f : Fr) (a : Option Addr) (len cap : Nat) (w : World) (hS : SizesAt w) (hR : RulesAt w) (hr : IsBytes w a len cap f.dt) (hE : frE f = 0) :
    Calls Tryd.prog 14 #[frameV f.id f.lo f.fa f.re f.sz a len cap] w fun e w' => e = .returned (.tuple #[.string ⟨(bitsL f).toArray⟩, .int .i64 0]) ∧ Below w.heap.size w w' := by
  obtain ⟨e1, e2, e3, e4, e5, e6, e7, e8, e9⟩ := frE_ok hE
  have hdl : f.dt.length = len := hr.1
  have hB := below_box w f.id f.lo f.fa f.re f.sz a len cap
  have hK := FrAt.box w f.id f.lo f.fa f.re f.sz a len cap
  have hck := frCheck_any f.id f.lo f.fa f.re f.sz a len cap _ (hS.kept hB) (by unfold maxLen; omega)
  have hE' : frEn f.id f.lo f.fa f.re f.sz len = 0 := by rw [← hE]; unfold frE; rw [hdl]
  rw [hE'] at hck
  have hhd := fun W hW hBy => head_any f a len cap W hW hE hBy
  have hHr := headL_row f
  have hHn := (headL_le f e7).2
  have hH1 := (headL_le f e7).1
  have hHl := mk_list (headL f)
  generalize ByteArray.mk (headL f).toArray = H at *
  have hHs : H.size = (headL f).length := ba_size hHl
  have hHc : checkE H.data.toList = 0 := checkE_row (by rw [hHl]; exact hHr) (by simp; omega)
  unfold frameC at hB hK hck
  unfold frameV at hhd hck ⊢
  have HCK := Hid.mk hck
  have H1 := Hid.mk hhd
  have HK := Hid.mk hK
  have HS := Hid.mk (hS.kept hB)
  have HR := Hid.mk (hR.kept hB)
  have HB := Hid.mk (isBytes_below hr hB)
  have hHz : H.size ≤ 553 := by omega
  have hlen : len ≤ 64 := by omega
  cases hfa : f.fa
  · have hbl : bitsL f = putF (headL f ++ sumL 0 (headL f)) ++ onesL := by unfold bitsL; rw [hfa]; rfl
    have hso := fun W hW => sum_ok 0 H W hW hHc (by omega)
    rw [hHl] at hso
    have hSl := mk_list (sumL 0 (headL f))
    have hSn := sumL_len 0 (headL f)
    have hSr := sumL_row 0 (headL f)
    generalize sumL 0 (headL f) = sl at *
    generalize ByteArray.mk sl.toArray = S at *
    have hk0 : kS 0 = 15 := rfl
    have hSz : S.size ≤ 15 := by rw [ba_size hSl, hSn, hk0]; exact Nat.le_refl _
    obtain ⟨Y, hY⟩ : ∃ Y, Y = H ++ S := ⟨_, rfl⟩
    have hYl : Y.data.toList = headL f ++ sl := by rw [hY, ba_cat, hHl, hSl]
    have hYs : Y.size = (headL f).length + sl.length := by rw [ba_size hYl, List.length_append]
    have hpu := fun W => put_ok Y W (checkE_row (by rw [hYl, rowB_append, hHr, hSr]; rfl) (by simp; omega))
    rw [hYl] at hpu
    have hPl := mk_list (putF (headL f ++ sl))
    have hPn := putF_len2 (headL f ++ sl)
    rw [List.length_append] at hPn
    simp only [hY] at hpu
    generalize putF (headL f ++ sl) = pl at *
    generalize ByteArray.mk pl.toArray = P at *
    have hPz : P.size ≤ 1200 := by rw [ba_size hPl]; omega
    have H2 := Hid.mk hso
    have H3 := Hid.mk hpu
    have HPL := Hid.mk hPl
    have HBL := Hid.mk hbl
    rw [hfa] at H1 HK hB HCK HS HR HB
    clear hhd hHr hHn hH1 hHl hHs hK hS hR hr hbl hso hSl hSn hSr hk0 hYl hYs hpu hPl hPn e1 e2 e3 e4 e5 e6 e7 e8 e9 hE hdl hY hHc hck hE'
    go_enter Tryd.func14, Tryd.ntmps14
    go_wp2_with fail
    refine HCK.out.mono ?_
    rintro e w0 ⟨rfl, hb0⟩
    have hbel0 := bl2 hB hb0
    obtain ⟨k0, k1, k2, k3, k4, k5⟩ := HK.out.kept hb0
    have HK0 := Hid.mk (HK.out.kept hb0)
    have HS0 := Hid.mk (HS.out.kept hb0)
    have HR0 := Hid.mk (HR.out.kept hb0)
    have HB0 := Hid.mk (isBytes_below HB.out hb0)
    clear hB hb0 HK HS HR HB HCK
    go_wp2_with fail
    refine (H1.out _ HS0.out HB0.out).mono ?_
    rintro e w1 ⟨rfl, hb1⟩
    have hbel1 := bl2 hbel0 hb1
    have j2 := (HK0.out.kept hb1).c2
    have HR1 := Hid.mk (HR0.out.kept hb1)
    clear hb1 hbel0 k0 k1 k2 k3 k4 k5 HK0 HS0 HR0 HB0 H1
    go_wp2_with fail
    refine (H2.out _ HR1.out).mono ?_
    rintro e w2 ⟨rfl, hb2⟩
    have hbel2 := bl2 hbel1 hb2
    clear hb2 hbel1 j2
    go_wp2_with fail
    refine (H3.out _).mono ?_
    rintro e w3 ⟨rfl, hb3⟩
    have hbel3 := bl2 hbel2 hb3
    clear hb3 hbel2
    go_wp2_with fail
    go_ret2
    exact ⟨ret_str2 (by rw [HBL.out, ba_cat, HPL.out]; rfl), hbel3⟩
  · have hbl : bitsL f = putF (headL f) ++ fastL (headL f) (putF (headL f)) f.dt.length ++ onesL := by unfold bitsL; rw [hfa]; rfl
    rw [fastL_fixed, hdl] at hbl
    have hpu := fun W => put_ok H W hHc
    rw [hHl] at hpu
    have hPl := mk_list (putF (headL f))
    have hPr := putF_row (headL f) hHr
    obtain ⟨kk, hk1, hk2⟩ := putF_most (headL f) hHr
    generalize hpp : putF (headL f) = pl at *
    generalize ByteArray.mk pl.toArray = P at *
    have hPs : P.size = pl.length := ba_size hPl
    have hPz : P.size ≤ 900 := by omega
    have hfe := fun W hW => fixedPart_any P (pl.length - (headL f).length) len W hW (by omega) (by omega) (by rw [hPl]; exact hPr) (by omega)
    rw [hPl] at hfe
    have hq : ((pl.length - (headL f).length : Nat) : Int) = (P.size : Int) - (H.size : Int) := by omega
    simp only [hq] at hfe
    have hFl := mk_list (fixedL pl (pl.length - (headL f).length) len)
    have hFn : (fixedL pl (pl.length - (headL f).length) len).length ≤ 32 := by rw [fixedL_len]; split <;> omega
    generalize fixedL pl (pl.length - (headL f).length) len = fl at *
    generalize ByteArray.mk fl.toArray = F at *
    have hFz : F.size ≤ 32 := by rw [ba_size hFl]; exact hFn
    have hHP : (H.size : Int) ≤ (P.size : Int) := by omega
    have H2 := Hid.mk hpu
    have H3 := Hid.mk hfe
    have HPL := Hid.mk hPl
    have HFL := Hid.mk hFl
    have HBL := Hid.mk hbl
    rw [hfa] at H1 HK hB HCK HS HR HB
    clear hhd hHr hHn hH1 hHl hHs hK hS hR hr hbl hpu hPl hPr hk1 hk2 hpp hPs hfe hFl hFn e1 e2 e3 e4 e5 e6 e7 e8 e9 hE hdl hHc hck hE' hq
    go_enter Tryd.func14, Tryd.ntmps14
    go_wp2_with fail
    refine HCK.out.mono ?_
    rintro e w0 ⟨rfl, hb0⟩
    have hbel0 := bl2 hB hb0
    obtain ⟨k0, k1, k2, k3, k4, k5⟩ := HK.out.kept hb0
    have HK0 := Hid.mk (HK.out.kept hb0)
    have HS0 := Hid.mk (HS.out.kept hb0)
    have HR0 := Hid.mk (HR.out.kept hb0)
    have HB0 := Hid.mk (isBytes_below HB.out hb0)
    clear hB hb0 HK HS HR HB HCK
    go_wp2_with fail
    refine (H1.out _ HS0.out HB0.out).mono ?_
    rintro e w1 ⟨rfl, hb1⟩
    have hbel1 := bl2 hbel0 hb1
    have j2 := (HK0.out.kept hb1).c2
    have HK1 := Hid.mk (HK0.out.kept hb1)
    have HR1 := Hid.mk (HR0.out.kept hb1)
    clear hb1 hbel0 k0 k1 k2 k3 k4 k5 HK0 HS0 HR0 HB0 H1
    go_wp2_with fail
    refine (H2.out _).mono ?_
    rintro e w2 ⟨rfl, hb2⟩
    have hbel2 := bl2 hbel1 hb2
    have m5 := (HK1.out.kept hb2).c5
    have HR2 := Hid.mk (HR1.out.kept hb2)
    clear hb2 hbel1 j2 HK1 HR1
    go_wp2_with fail
    refine (H3.out _ HR2.out).mono ?_
    rintro e w3 ⟨rfl, hb3⟩
    have hbel3 := bl2 hbel2 hb3
    clear hb3 hbel2 m5
    go_wp2_with fail
    go_ret2
    exact ⟨ret_str2 (by rw [HBL.out, ba_cat, ba_cat, HPL.out, HFL.out]; rfl), hbel3⟩
theorem frBits_any (f : Fr) (a : Option Addr) (len cap : Nat) (w : World) (hS : SizesAt w) (hR : RulesAt w) (hr : IsBytes w a len cap f.dt) :
    Calls Tryd.prog 14 #[frameV f.id f.lo f.fa f.re f.sz a len cap] w fun e w' => e = .returned (bitsA f) ∧ Below w.heap.size w w' := by
  unfold bitsA
  by_cases hE : frE f = 0
  · rw [if_pos hE]; exact frBits_ok f a len cap w hS hR hr hE
  · rw [if_neg hE]; exact frBits_bad f a len cap w hS (by have := hr.2.1; have := hr.2.2.1; omega) hr.1 hE
end Bw
end Go.Proofs.YtihiboccibidgacDoor

/- What is sent is read by frame.Read, whatever follows. -/
namespace Go.Proofs.YtihiboccibidgacDoor
open Go.ChangeShapes Go.WideShapes Go.ChangeAt Go.RowKit
namespace Bw
open Bm Cm

theorem fixR_row (l : List UInt8) (a : UInt8) (hl : rowB l = true) : ∀ i, i ≤ l.length → rowB (fixR l a i) = true
  | 0, _ => rfl
  | i + 1, h => by
    have ih := fixR_row l a hl i (by omega)
    have hb : bit (l.getD i 0) = true := by
      have hi : i < l.length := by omega
      rw [List.getD, List.getElem?_eq_getElem hi, Option.getD_some]
      exact rowB_all.1 hl _ (List.getElem_mem hi)
    rw [fixR, rowB_snoc, hb, Bool.and_true]
    split
    · rw [rowB_snoc, ih, otb_bit]; rfl
    · exact ih
theorem fixedL_row (p : List UInt8) (q n : Nat) : rowB (fixedL p q n) = true := by
  unfold fixedL fixL
  exact fixR_row _ _ (by rw [rowB_append, (gray_row _ (Nat.mod_lt _ (by omega))).1, sumL_row]; rfl) _ (Nat.le_refl _)
theorem preL_row (f : Fr) : rowB (preL f) = true := by
  unfold preL
  split
  · rw [rowB_append, putF_row _ (headL_row f), fastL_fixed, fixedL_row]; rfl
  · exact putF_row _ (by rw [rowB_append, headL_row, sumL_row]; rfl)
theorem preL_len (f : Fr) (hE : frE f = 0) : 1 ≤ (preL f).length ∧ (preL f).length ≤ 750 := by
  obtain ⟨-, -, -, -, -, -, e7, e8, -⟩ := frE_ok hE
  obtain ⟨h1, h2⟩ := headL_le f e7
  unfold preL
  split
  · obtain ⟨k, hk1, hk2⟩ := putF_most (headL f) (headL_row f)
    rw [List.length_append, fastL_fixed, fixedL_len]
    split <;> omega
  · obtain ⟨k, hk1, hk2⟩ := putF_most (headL f ++ sumL 0 (headL f)) (by rw [rowB_append, headL_row, sumL_row]; rfl)
    have hs : (sumL 0 (headL f)).length = 15 := sumL_len 0 _
    rw [List.length_append, hs] at hk1 hk2
    omega
theorem bitsL_len (f : Fr) : (bitsL f).length = (preL f).length + 10 := by rw [bitsL_pre, List.length_append]; rfl
theorem bitsL_row (f : Fr) : rowB (bitsL f) = true := by rw [bitsL_pre, rowB_append, preL_row]; rfl

theorem readBack_any (f : Fr) (e rest : List UInt8) (T : ByteArray) (w : World) (hS : SizesAt w) (hR : RulesAt w) (hE : frE f = 0) (he : e = onesL ∨ e = heardL) (hT : T.data.toList = preL f ++ (e ++ rest)) (hr : rowB rest = true) (hn : T.size ≤ 1000) :
    Calls Tryd.prog 16 #[.string T] w fun x w' => ∃ a len cap, x = .returned (.tuple #[frameV f.id f.lo f.fa f.re f.sz a len cap, .int .i64 ((preL f).length + 10 : Nat), .int .i64 0]) ∧ IsBytes w' a len cap f.dt ∧ Below w.heap.size w w' := by
  have her : rowB e = true := by rcases he with rfl | rfl <;> rfl
  have hrow : rowB T.data.toList = true := by rw [hT, rowB_append, rowB_append, preL_row, her, hr]; rfl
  have hl : T.data.toList.length = T.size := by simp
  have hc := checkE_row hrow (by omega)
  obtain ⟨b1, b2, b3⟩ := read_back f e rest hE he
  rw [← hT] at b1 b2 b3
  refine (read_ok T w hS hR hc).mono ?_
  rintro x w' ⟨-, h2, h3⟩
  obtain ⟨a, len, cap, hx, hby⟩ := h2 b1
  rw [b2, b3] at hx
  rw [b3] at hby
  exact ⟨a, len, cap, hx, hby, h3⟩
end Bw
end Go.Proofs.YtihiboccibidgacDoor

/- What slices.Equal answers of two slices that hold the same bytes: true. -/
namespace Go.Proofs.YtihiboccibidgacDoor
open Go.ChangeShapes Go.WideShapes Go.ChangeAt Go.RowKit
namespace Bw
open Bm

def HasBytes (w : World) (a : Option Addr) (n : Nat) (l : List UInt8) : Prop :=
  (a = none → n = 0) ∧ ∀ x, a = some x → ∀ i, i < n → w.cell? (x.add i) = some (.int .u8 (l.getD i 0).toNat)

set_option maxHeartbeats 1000000 in
theorem equalB_true (w : World) (a b : Option Addr) (n c d : Nat) (l : List UInt8) (hn : n ≤ maxLen) (ha : HasBytes w a n l) (hb : HasBytes w b n l) :
    Calls Tryd.prog 54 #[.slice a n c, .slice b n d] w fun e w' => e = .returned (.bool true) ∧ Below w.heap.size w w' := by
  have HA := Hid.mk ha
  have HB := Hid.mk hb
  unfold maxLen at hn
  clear ha hb
  go_enter Tryd.func54, Tryd.ntmps54
  go_wp2
  go_loopw [13] (fun i w' => ∃ k : Nat, k ≤ n ∧ i = .int .i64 k ∧ ∃ m, w' = w.drewN m) (fun i _ => n - (intOf i).toNat)
  case atStart => exact ⟨0, Nat.zero_le _, rfl, 0, rfl⟩
  case round =>
    obtain ⟨k, hk, rfl, m, rfl⟩ := hrel
    by_cases hlt : k < n
    · cases a with
      | none => exact absurd (HA.out.1 rfl) (by omega)
      | some x =>
        cases b with
        | none => exact absurd (HB.out.1 rfl) (by omega)
        | some y =>
          have g1 := HA.out.2 x rfl k hlt
          have g2 := HB.out.2 y rfl k hlt
          have hlt' : (k : Int) < (n : Int) := by omega
          go_wp2
          go_quiet (fail)
          go_wp2
          go_roundw
          case rel => exact ⟨k + 1, by omega, by go_num, _, rfl⟩
          case measure => simp [intOf]; omega
    · go_wp2
      go_ret
      exact ⟨rfl, ⟨rfl, rfl, rfl, Nat.le_refl _, fun _ _ => rfl⟩⟩
end Bw
end Go.Proofs.YtihiboccibidgacDoor

/- What the document's own SameFrame answers of frames that are alike. -/
namespace Go.Proofs.YtihiboccibidgacDoor
open Go.ChangeShapes Go.WideShapes Go.ChangeAt Go.RowKit
namespace Bw
open Bm Cm

set_option maxHeartbeats 8000000 in
theorem sameFrame_true (f : Fr) (a1 a2 : Option Addr) (n1 c1 n2 c2 : Nat) (w : World) (h1 : IsBytes w a1 n1 c1 f.dt) (h2 : IsBytes w a2 n2 c2 f.dt) :
    Calls Tryd.prog 27 #[frameV f.id f.lo f.fa f.re f.sz a1 n1 c1, frameV f.id f.lo f.fa f.re f.sz a2 n2 c2] w fun e w' => e = .returned (.bool true) ∧ Below w.heap.size w w' := by
  obtain ⟨id, lo, fa, re, sz, dt⟩ := f
  simp only at h1 h2 ⊢
  have hB1 := below_box w id lo fa re sz a1 n1 c1
  have hB2 := below_box (w.alloc (frameC id lo fa re sz a1 n1 c1)) id lo fa re sz a2 n2 c2
  have hB := bl2 hB1 hB2
  have hn : n1 = n2 := h1.1.symm.trans h2.1
  subst hn
  have hmx : n1 ≤ maxLen := by have := h1.2.1; have := h1.2.2.1; omega
  have hY1 := isBytes_below h1 hB
  have hY2 := isBytes_below h2 hB
  have hbe := equalB_true _ a1 a2 n1 c1 c2 dt hmx ⟨hY1.2.2.2.1, hY1.2.2.2.2⟩ ⟨hY2.2.2.2.1, hY2.2.2.2.2⟩
  have HBE := Hid.mk hbe
  have HB := Hid.mk hB
  unfold frameC at HBE HB
  unfold frameV
  clear h1 h2 hB1 hB2 hB hbe hY1 hY2 hmx
  go_enter Tryd.func27, Tryd.ntmps27
  go_wp2_with fail
  refine HBE.out.mono ?_
  rintro e w1 ⟨rfl, hb1⟩
  have hbel := bl2 HB.out hb1
  clear hb1
  go_wp2_with fail
  go_ret
  exact ⟨rfl, hbel⟩
end Bw
end Go.Proofs.YtihiboccibidgacDoor

/- Contracts of Go's library that the kit proves once, laid at this program: no walk, one application each. -/
namespace Go.Proofs
open Go.Shelf
def Tryd.lays99_ren : Go.Shelf.Ren := ⟨fun | 99 => 28 | 206 => 55 | n => n, fun | 9 => 9 | 4 => 4 | 3 => 3 | n => n, fun | n => n⟩
theorem Tryd.lays99 : Go.Proofs.Lays.n99 Tryd.prog Tryd.lays99_ren := {
  mixed := by kernel_rfl
  f99 := Tryd.func28.trans (congrArg some (by kernel_rfl))
  f206 := Tryd.func55.trans (congrArg some (by kernel_rfl))
  t3 := Tryd.underlying3
  a3 := Tryd.isAgg3
  z3 := Tryd.sizeOf3
  v3 := Tryd.zeroValue3
  t4 := Tryd.underlying4
  a4 := Tryd.isAgg4
  z4 := Tryd.sizeOf4
  v4 := Tryd.zeroValue4
  t9 := Tryd.underlying9
  a9 := Tryd.isAgg9
  z9 := Tryd.sizeOf9
  v9 := Tryd.zeroValue9 }
open Go.RowKit Go.Lib in
theorem Tryd.strings_HasPrefix (s p : ByteArray) (w : World) :
    Calls Tryd.prog 28 #[.string s, .string p] w fun e w' => e = .returned (.bool (Lib.hasPrefix s.data.toList p.data.toList)) ∧ w' = w := Any.strings_HasPrefix Tryd.lays99 s p w
end Go.Proofs

/- The closed fact that each law of frames asks for: a frame, there and back. -/
namespace Go.Proofs.YtihiboccibidgacDoor
open Go.ChangeShapes Go.WideShapes Go.ChangeAt Go.RowKit
namespace Bw
open Bm Cm

def fr5 : Fr := ⟨5, false, false, false, 0, [1, 255]⟩
theorem fr5_ok : frE fr5 = 0 := by decide +kernel
theorem fr5_pre : Lib.hasPrefix (bitsL fr5) [48, 48, 48, 48, 48, 49, 48, 48, 48, 48, 49, 48, 49] = true := by decide +kernel
def d5C : Obj := .cells #[.int .u8 1, .int .u8 255] 5
theorem d5_bytes (w : World) : IsBytes (w.alloc d5C) (some ⟨w.heap.size, 0, none⟩) 2 2 [1, 255] := by
  refine ⟨rfl, Nat.le_refl _, by unfold maxLen; decide, (fun h => by cases h), ?_⟩
  intro x hx i hi
  cases hx
  have e : (Addr.add ⟨w.heap.size, 0, none⟩ i) = ⟨w.heap.size, i, none⟩ := by simp [Addr.add]; exact fun h => h.symm
  rw [e, cell_of_row _ _ i _ _ _ (heap_alloc_new w d5C)]
  match i, hi with
  | 0, _ => rfl
  | 1, _ => rfl

set_option maxHeartbeats 8000000 in
theorem framed_any (w : World) (hS : SizesAt w) (hR : RulesAt w) :
    Calls Tryd.prog 11 #[] w fun e w' => e = .returned (.bool true) ∧ Below w.heap.size w w' := by
  have hB0 : Below w.heap.size w (w.alloc d5C) := (Below.refl _ _).alloc (Nat.le_refl _) _
  have hB1 := bl2 hB0 (below_box (w.alloc d5C) 5 false false false 0 (some ⟨w.heap.size, 0, none⟩) 2 2)
  have hK := FrAt.box (w.alloc d5C) 5 false false false 0 (some ⟨w.heap.size, 0, none⟩) 2 2
  have hY := isBytes_below (d5_bytes w) (below_box (w.alloc d5C) 5 false false false 0 (some ⟨w.heap.size, 0, none⟩) 2 2)
  have a1 := frBits_ok fr5 (some ⟨w.heap.size, 0, none⟩) 2 2 _ (hS.kept hB1) (hR.kept hB1) hY fr5_ok
  have hsz : (w.alloc d5C).heap.size = w.heap.size + 1 := by simp
  rw [hsz] at hK
  have hbl := bitsL_len fr5
  have hpl := preL_len fr5 fr5_ok
  have hBl := mk_list (bitsL fr5)
  have hpre := fr5_pre
  have hT : ∀ X : ByteArray, X.data.toList = bitsL fr5 → (X ++ ⟨#[49]⟩).data.toList = preL fr5 ++ (onesL ++ [49]) := by
    intro X hX
    rw [ba_cat, hX, bitsL_pre, List.append_assoc]
  have a2 := fun X W hX hSW hRW hn => readBack_any fr5 onesL [49] (X ++ ⟨#[49]⟩) W hSW hRW fr5_ok (.inl rfl) (hT X hX) (by decide) hn
  have a3 := fun W a len cap h1 h2 => sameFrame_true fr5 (some ⟨w.heap.size, 0, none⟩) a 2 2 len cap W h1 h2
  have a4 := fun X W => Tryd.strings_HasPrefix X ⟨#[48, 48, 48, 48, 48, 49, 48, 48, 48, 48, 49, 48, 49]⟩ W
  generalize ByteArray.mk (bitsL fr5).toArray = X at *
  have hXs : X.size = (preL fr5).length + 10 := by rw [ba_size hBl, hbl]
  have a4' := a4 X
  rw [hBl, hpre] at a4'
  have a2' := fun W hSW hRW => a2 X W hBl hSW hRW (by show (X ++ ⟨#[49]⟩).size ≤ 1000; rw [ByteArray.size_append]; show X.size + 1 ≤ 1000; omega)
  rw [← hXs] at a2'
  have hXm : X.size ≤ 760 := by omega
  have HA1 := Hid.mk a1
  have HA2 := Hid.mk a2'
  have HA3 := Hid.mk a3
  have HA4 := Hid.mk a4'
  have HK := Hid.mk hK
  have HY := Hid.mk hY
  have HB := Hid.mk hB1
  have HS := Hid.mk hS
  have HR := Hid.mk hR
  unfold frameC d5C at HA1 HK HY HB
  simp only [fr5] at HA1 HA2 HA3 HY
  unfold frameV at HA1 HA2 HA3
  clear a1 a2 a2' a3 a4 a4' hK hY hB0 hB1 hS hR hbl hpl hBl hpre hT hXs hsz
  go_enter Tryd.func11, Tryd.ntmps11
  go_wp2_with fail
  refine HA1.out.mono ?_
  rintro e w1 ⟨rfl, hb1⟩
  have HB1 := Hid.mk (bl2 HB.out hb1)
  have HK1 := Hid.mk (HK.out.kept hb1)
  have HY1 := Hid.mk (isBytes_below HY.out hb1)
  clear hb1 HB HK HY HA1
  go_wp2_with fail
  refine (HA2.out _ (HS.out.kept HB1.out) (HR.out.kept HB1.out)).mono ?_
  rintro e w2 ⟨a, len, cap, rfl, hby, hb2⟩
  have hb3 : Below w2.heap.size w2 (w2.alloc (.cells #[.int .i64 5, .bool false, .bool false, .bool false, .int .i64 0, .slice a len cap] 33)) := (Below.refl _ _).alloc (Nat.le_refl _) _
  have hb23 := bl2 hb2 hb3
  have HB3 := Hid.mk (bl2 HB1.out hb23)
  obtain ⟨k0, k1, k2, k3, k4, k5⟩ := HK1.out.kept hb23
  have HY3 := Hid.mk (isBytes_below HY1.out hb23)
  have HZ3 := Hid.mk (isBytes_below hby hb3)
  clear hb2 hby hb3 hb23 HB1 HK1 HY1 HA2
  go_wp2_with fail
  refine (HA3.out _ _ _ _ HY3.out HZ3.out).mono ?_
  rintro e w4 ⟨rfl, hb4⟩
  have HB4 := Hid.mk (bl2 HB3.out hb4)
  clear hb4 HB3 HY3 HZ3 HA3 k0 k1 k2 k3 k4 k5
  go_wp2_with fail
  refine (HA4.out _).mono ?_
  rintro e w5 ⟨rfl, hw5⟩
  subst hw5
  go_wp2_with fail
  go_ret
  exact ⟨rfl, HB4.out⟩
end Bw
end Go.Proofs.YtihiboccibidgacDoor

/- What strconv.FormatInt answers in base 2 of a number from 0 on: its bits, the one that counts most first, none of them too many. -/
namespace Go.Proofs.YtihiboccibidgacDoor
open Go.ChangeShapes Go.WideShapes Go.ChangeAt Go.RowKit
namespace Bw
open Bm

set_option maxHeartbeats 1000000 in
theorem tz2 (w : World) (h : w.cell? ⟨5, 1, none⟩ = some (.int .u8 1)) :
    Calls Tryd.prog 100 #[.int .u64 2] w fun e w' => e = .returned (.int .i64 1) ∧ w' = w := by
  have hq : IntKind.u64.wrap (bits .and .u64 2 (IntKind.u64.wrap (-2)) * 285870213051353865) / 288230376151711744 = 1 := by kernel_rfl
  go_enter Tryd.func100, Tryd.ntmps100
  go_wp2
  go_ret
  exact ⟨rfl, rfl⟩
set_option maxHeartbeats 400000 in
theorem pow2_yes (w : World) : Calls Tryd.prog 99 #[.int .i64 2] w fun e w' => e = .returned (.bool true) ∧ w' = w := by
  have hq : bits .and .i64 2 1 = 0 := by kernel_rfl
  go_enter Tryd.func99, Tryd.ntmps99
  go_wp2
  go_ret
  exact ⟨rfl, rfl⟩

theorem and_one_u (x : Nat) (h1 : x < 2 ^ 63) : bits .and .u64 (x : Int) 1 = (x : Int) % 2 := by
  have := bits_mask .u64 63 (by decide) (fun n h0 h1 => by simp only [IntKind.wrap, IntKind.bits, IntKind.signed]; simp; omega) 1 (by decide) x (by omega) (by omega)
  simpa using this

theorem arr_t : Tryd.prog.underlying 125 = some (.array (Tryd.prog.arrayLen 125) (Tryd.prog.elem 125)) := by kernel_rfl
theorem arr_len : Tryd.prog.arrayLen 125 = 65 := by kernel_rfl
theorem arr_size (W : World) : (sizeOf (Tryd.prog.elem 125)).run Tryd.prog W = .ok 1 W := by kernel_rfl

/-- the array of the digits: from the place 65 - j on they stand -/
def Digs (wr : World) (B n j : Nat) : Prop :=
  ∃ cur : Array Value, wr.heap[B]? = some (.cells cur 125 (0, 0)) ∧ cur.size = 65 ∧ ∀ p, 65 - j ≤ p → p < 65 → cur[p]? = some (.int .u8 (bitAt n (64 - p)).toNat)

set_option maxHeartbeats 2000000 in
theorem formatBits2 (n : Nat) (w : World) (h : w.cell? ⟨5, 1, none⟩ = some (.int .u8 1)) (hn : n < 2 ^ 63) :
    Calls Tryd.prog 87 #[.slice none 0 0, .int .u64 n, .int .i64 2, .bool false, .bool false] w fun e w' => ∃ j, j ≤ 63 ∧ n < 2 ^ (j + 1) ∧ (j = 0 ∨ 2 ^ j ≤ n) ∧ e = .returned (.tuple #[.slice none 0 0, .string ⟨(bitsHead n (j + 1) (j + 1)).toArray⟩]) ∧ Below w.heap.size w w' := by
  have H := Hid.mk h
  clear h
  go_enter Tryd.func87, Tryd.ntmps87
  go_wp2_with fail
  refine (pow2_yes _).mono ?_
  rintro e w1 ⟨rfl, rfl⟩
  go_wp2_with fail
  refine (tz2 _ (cell_kept ((Below.refl _ _).alloc (Nat.le_refl _) _) H.out)).mono ?_
  rintro e w1 ⟨rfl, rfl⟩
  go_wp2_with fail
  go_loopw [1, 13] (fun u i wr => ∃ j u' ii : Nat, u' = n / 2 ^ j ∧ (j = 0 ∨ 1 ≤ u') ∧ ii + j = 65 ∧ j ≤ 62 ∧ u = .int .u64 u' ∧ i = .int .i64 ii ∧ Digs wr w.heap.size n j ∧ Below w.heap.size w wr) (fun u _ _ => (intOf u).toNat)
  case atStart => exact ⟨0, n, 65, by simp, Or.inl rfl, rfl, by omega, rfl, rfl, ⟨_, heap_alloc_new w _, by kernel_rfl, fun p h1 h2 => by omega⟩, (Below.refl _ _).alloc (Nat.le_refl _) _⟩
  case round =>
    obtain ⟨j, u', ii, hu, hju, hij, hj62, rfl, rfl, ⟨cur, hcur, hcs, hdig⟩, hbel⟩ := hrel
    have HU := Hid.mk hu
    have HD := Hid.mk hdig
    have hle : u' ≤ n := by rw [hu]; exact Nat.div_le_self _ _
    clear hu hdig
    by_cases h2 : 2 ≤ u'
    · have hj61 : j ≤ 61 := by
        rcases Nat.lt_or_ge j 62 with h | h
        · omega
        · exfalso
          have h3 : j = 62 := by omega
          subst h3
          have := HU.out
          have h4 : n / 2 ^ 62 < 2 := Nat.div_lt_of_lt_mul (by omega)
          omega
      have hc := cell_of_row wr w.heap.size (ii - 1) cur _ _ hcur
      have hlt : ii - 1 < cur.size := by omega
      obtain ⟨cv, hcv⟩ : ∃ cv, cur[ii - 1]? = some cv := ⟨_, Array.getElem?_eq_getElem hlt⟩
      rw [hcv] at hc
      clear hcv
      have hf := frozen_of_row wr w.heap.size (ii - 1) cur _ hcur
      have hu63 : (u' : Int) < 9223372036854775808 := by omega
      have hcell := heap_setCell_same wr w.heap.size (ii - 1) cur _ (.int .u8 (bitAt n j).toNat) hcur
      have hD2 : Digs (wr.setCell ⟨w.heap.size, ii - 1, none⟩ (.int .u8 (bitAt n j).toNat)) w.heap.size n (j + 1) := by
        refine ⟨_, hcell, by simpa using hcs, fun p h1 h3 => ?_⟩
        rw [Array.getElem?_setIfInBounds]
        by_cases e : ii - 1 = p
        · rw [if_pos e, if_pos (by omega)]
          have : 64 - p = j := by omega
          rw [this]
        · rw [if_neg e]
          exact HD.out p (by omega) h3
      have hb2 : Below w.heap.size w (wr.setCell ⟨w.heap.size, ii - 1, none⟩ (.int .u8 (bitAt n j).toNat)) := hbel.setCell (Nat.le_refl _) _
      have HD2 := Hid.mk hD2
      have HB2 := Hid.mk hb2
      have HB1 := Hid.mk hbel
      have hi1 : 3 ≤ (ii : Int) := by omega
      have hi2 : (ii : Int) ≤ 65 := by omega
      have h2' : 2 ≤ (u' : Int) := by omega
      have HIJ := Hid.mk hij
      have HJU := Hid.mk hju
      clear hD2 hb2 hcell hbel HD hcur hcs hij hju hlt
      rcases Nat.mod_two_eq_zero_or_one u' with hm | hm
      · have hand : bits .and .u64 (u' : Int) 1 = 0 := by rw [and_one_u u' (by omega)]; omega
        have HBit : Hid (bitAt n j = 48) := by show _ = _; unfold bitAt; rw [if_neg (by have := HU.out; omega)]
        have HM := Hid.mk hm
        have HJ := Hid.mk hj61
        clear hm hn hj61 hj62
        go_wp2_with fail
        go_roundw
        case rel => exact ⟨j + 1, u' / 2, ii - 1, by rw [HU.out, Nat.pow_succ, Nat.div_div_eq_div_mul], Or.inr (by omega), (by have := HIJ.out; omega), (by have := HJ.out; omega), by go_num, by go_num, (by have := HD2.out; rw [HBit.out] at this; exact this), (by have := HB2.out; rw [HBit.out] at this; exact this)⟩
        case measure => simp [intOf]; omega
      · have hand : bits .and .u64 (u' : Int) 1 = 1 := by rw [and_one_u u' (by omega)]; omega
        have HBit : Hid (bitAt n j = 49) := by show _ = _; unfold bitAt; rw [if_pos (by have := HU.out; omega)]
        have HM := Hid.mk hm
        have HJ := Hid.mk hj61
        clear hm hn hj61 hj62
        go_wp2_with fail
        go_roundw
        case rel => exact ⟨j + 1, u' / 2, ii - 1, by rw [HU.out, Nat.pow_succ, Nat.div_div_eq_div_mul], Or.inr (by omega), (by have := HIJ.out; omega), (by have := HJ.out; omega), by go_num, by go_num, (by have := HD2.out; rw [HBit.out] at this; exact this), (by have := HB2.out; rw [HBit.out] at this; exact this)⟩
        case measure => simp [intOf]; omega
    · have hc := cell_of_row wr w.heap.size (ii - 1) cur _ _ hcur
      have hlt : ii - 1 < cur.size := by omega
      obtain ⟨cv, hcv⟩ : ∃ cv, cur[ii - 1]? = some cv := ⟨_, Array.getElem?_eq_getElem hlt⟩
      rw [hcv] at hc
      clear hcv
      have hf := frozen_of_row wr w.heap.size (ii - 1) cur _ hcur
      have hcell := heap_setCell_same wr w.heap.size (ii - 1) cur _ (.int .u8 (bitAt n j).toNat) hcur
      obtain ⟨c2, hc2, hs2, hd2⟩ : Digs (wr.setCell ⟨w.heap.size, ii - 1, none⟩ (.int .u8 (bitAt n j).toNat)) w.heap.size n (j + 1) := by
        refine ⟨_, hcell, by simpa using hcs, fun p h1 h3 => ?_⟩
        rw [Array.getElem?_setIfInBounds]
        by_cases e : ii - 1 = p
        · rw [if_pos e, if_pos (by omega)]
          have : 64 - p = j := by omega
          rw [this]
        · rw [if_neg e]
          exact HD.out p (by omega) h3
      have hb2 : Below w.heap.size w (wr.setCell ⟨w.heap.size, ii - 1, none⟩ (.int .u8 (bitAt n j).toNat)) := hbel.setCell (Nat.le_refl _) _
      have hconv := run_convert_bytes_back (P := Tryd.prog) (wr.setCell ⟨w.heap.size, ii - 1, none⟩ (.int .u8 (bitAt n j).toNat)) 31 9 5 ⟨w.heap.size, ii - 1, none⟩ (j + 1) (bitsHead n (j + 1) (j + 1)) Tryd.underlying31 Tryd.underlying5 Tryd.underlying9 (fun q hq => by
        rw [bitsHead_length] at hq
        rw [Addr.add_lit, cell_of_row _ w.heap.size (ii - 1 + q) c2 _ _ hc2, hd2 (ii - 1 + q) (by omega) (by omega)]
        have e1 : 64 - (ii - 1 + q) = j + 1 - 1 - q := by omega
        rw [e1]
        simp [bitsHead])
      rw [bitsHead_length] at hconv
      have hlt2 : n < 2 ^ (j + 1) := by
        have h3 : n / 2 ^ j < 2 := by have := HU.out; omega
        have h4 : n / 2 ^ j + 1 ≤ 2 := h3
        have h5 : n < 2 ^ j * 2 := Nat.lt_of_lt_of_le (Nat.lt_mul_div_succ n (Nat.two_pow_pos j)) (Nat.mul_le_mul_left _ h4)
        rw [Nat.pow_succ]; exact h5
      have hge : j = 0 ∨ 2 ^ j ≤ n := by
        rcases hju with h | h
        · exact Or.inl h
        · exact Or.inr (by have := HU.out; rcases Nat.lt_or_ge n (2 ^ j) with h' | h'; (rw [Nat.div_eq_of_lt h'] at this; omega); exact h')
      have hi1 : 3 ≤ (ii : Int) := by omega
      have hi2 : (ii : Int) ≤ 65 := by omega
      have hJ1 : (65 : Int) - ((ii : Int) - 1) = ((j + 1 : Nat) : Int) := by omega
      have HB2 := Hid.mk hb2
      have HG := Hid.mk hge
      have HL := Hid.mk hlt2
      have HJ := Hid.mk hj62
      have hsl : ∀ W, (Instr.sliceAt 125 (.pointer (some ⟨w.heap.size, 0, none⟩)) (some (.int .i64 ((ii : Int) - 1))) none none).run Tryd.prog W = .ok (.slice (some ⟨w.heap.size, ii - 1, none⟩) (j + 1) (j + 1)) W := by
        intro W
        rw [run_sliceAt_array_l W 125 ⟨w.heap.size, 0, none⟩ arr_t .i64 ((ii : Int) - 1) (by omega) (by rw [arr_len]; omega), arr_size W, arr_len]
        simp only [Result.andThen, slicedAt]
        have e1 : ((ii : Int) - 1).toNat = ii - 1 := by omega
        have e2 : 65 - (ii - 1) = j + 1 := by omega
        rw [e1, e2, if_neg (by omega), Nat.mul_one, Addr.add_lit, Nat.zero_add]
      have HCv := Hid.mk hconv
      clear hb2 hcell hbel HD hcur hcs hju hlt hc2 hd2 hs2 hge hlt2 hconv hj62
      rcases (show u' = 0 ∨ u' = 1 by omega) with rfl | rfl
      · have HBit : Hid (bitAt n j = 48) := by show _ = _; unfold bitAt; rw [if_neg (by have := HU.out; omega)]
        have hcv := HCv.out
        rw [HBit.out, show ((48 : UInt8).toNat : Int) = 48 from rfl] at hcv
        have hd0 : ((ByteArray.mk #[48, 49, 50, 51, 52, 53, 54, 55, 56, 57, 97, 98, 99, 100, 101, 102, 103, 104, 105, 106, 107, 108, 109, 110, 111, 112, 113, 114, 115, 116, 117, 118, 119, 120, 121, 122])[0]'(by decide)).toNat = 48 := rfl
        clear hij hJ1 hn hle
        set_option maxRecDepth 30000 in
        go_wp2_with fail
        go_ret2
        exact ⟨j, by have := HJ.out; omega, HL.out, HG.out, rfl, by have := HB2.out; rw [HBit.out] at this; exact this⟩
      · have HBit : Hid (bitAt n j = 49) := by show _ = _; unfold bitAt; rw [if_pos (by have := HU.out; omega)]
        have hcv := HCv.out
        rw [HBit.out, show ((49 : UInt8).toNat : Int) = 49 from rfl] at hcv
        have hd0 : ((ByteArray.mk #[48, 49, 50, 51, 52, 53, 54, 55, 56, 57, 97, 98, 99, 100, 101, 102, 103, 104, 105, 106, 107, 108, 109, 110, 111, 112, 113, 114, 115, 116, 117, 118, 119, 120, 121, 122])[1]'(by decide)).toNat = 49 := rfl
        clear hij hJ1 hn hle
        set_option maxRecDepth 30000 in
        go_wp2_with fail
        go_ret2
        exact ⟨j, by have := HJ.out; omega, HL.out, HG.out, rfl, by have := HB2.out; rw [HBit.out] at this; exact this⟩
end Bw
end Go.Proofs.YtihiboccibidgacDoor

/- Contracts of Go's library that the kit proves once, laid at this program: no walk, one application each. -/
namespace Go.Proofs
open Go.Shelf
def Tryd.lays105_ren : Go.Shelf.Ren := ⟨fun | 105 => 72 | 212 => 78 | 99 => 28 | 165 => 79 | 166 => 80 | 170 => 81 | 169 => 82 | 263 => 88 | 264 => 89 | 206 => 55 | 240 => 90 | 241 => 91 | 276 => 101 | 277 => 102 | n => n, fun | 9 => 9 | 3 => 3 | 4 => 4 | 20 => 20 | 0 => 0 | 46 => 85 | 109 => 100 | 5 => 5 | 72 => 104 | 76 => 108 | 51 => 118 | 146 => 119 | 53 => 113 | 148 => 121 | 70 => 102 | 37 => 31 | 75 => 107 | 127 => 123 | 164 => 127 | 80 => 111 | n => n, fun | n => n⟩
theorem Tryd.lays105 : Go.Proofs.Lays.n105 Tryd.prog Tryd.lays105_ren := {
  mixed := by kernel_rfl
  f99 := Tryd.func28.trans (congrArg some (by kernel_rfl))
  f105 := Tryd.func72.trans (congrArg some (by kernel_rfl))
  f165 := Tryd.func79.trans (congrArg some (by kernel_rfl))
  f166 := Tryd.func80.trans (congrArg some (by kernel_rfl))
  f169 := Tryd.func82.trans (congrArg some (by kernel_rfl))
  f170 := Tryd.func81.trans (congrArg some (by kernel_rfl))
  f206 := Tryd.func55.trans (congrArg some (by kernel_rfl))
  f212 := Tryd.func78.trans (congrArg some (by kernel_rfl))
  f240 := Tryd.func90.trans (congrArg some (by kernel_rfl))
  f241 := Tryd.func91.trans (congrArg some (by kernel_rfl))
  f263 := Tryd.func88.trans (congrArg some (by kernel_rfl))
  f264 := Tryd.func89.trans (congrArg some (by kernel_rfl))
  f276 := Tryd.func101.trans (congrArg some (by kernel_rfl))
  f277 := Tryd.func102.trans (congrArg some (by kernel_rfl))
  t0 := Tryd.underlying0
  a0 := Tryd.isAgg0
  z0 := Tryd.sizeOf0
  v0 := Tryd.zeroValue0
  t3 := Tryd.underlying3
  a3 := Tryd.isAgg3
  z3 := Tryd.sizeOf3
  v3 := Tryd.zeroValue3
  t4 := Tryd.underlying4
  a4 := Tryd.isAgg4
  z4 := Tryd.sizeOf4
  v4 := Tryd.zeroValue4
  t5 := Tryd.underlying5
  a5 := Tryd.isAgg5
  z5 := Tryd.sizeOf5
  v5 := Tryd.zeroValue5
  t9 := Tryd.underlying9
  a9 := Tryd.isAgg9
  z9 := Tryd.sizeOf9
  v9 := Tryd.zeroValue9
  t20 := Tryd.underlying20
  a20 := Tryd.isAgg20
  z20 := Tryd.sizeOf20
  v20 := Tryd.zeroValue20
  t37 := Tryd.underlying31
  a37 := Tryd.isAgg31
  z37 := Tryd.sizeOf31
  v37 := Tryd.zeroValue31
  t46 := Tryd.underlying85
  a46 := Tryd.isAgg85
  z46 := Tryd.sizeOf85
  v46 := Tryd.zeroValue85
  t51 := Tryd.underlying118
  a51 := Tryd.isAgg118
  z51 := Tryd.sizeOf118
  v51 := Tryd.zeroValue118
  t53 := Tryd.underlying113
  a53 := Tryd.isAgg113
  z53 := Tryd.sizeOf113
  v53 := Tryd.zeroValue113
  t70 := Tryd.underlying102
  a70 := Tryd.isAgg102
  z70 := Tryd.sizeOf102
  v70 := Tryd.zeroValue102
  t72 := Tryd.underlying104
  a72 := Tryd.isAgg104
  z72 := Tryd.sizeOf104
  v72 := Tryd.zeroValue104
  t75 := Tryd.underlying107
  a75 := Tryd.isAgg107
  z75 := Tryd.sizeOf107
  v75 := Tryd.zeroValue107
  t76 := Tryd.underlying108
  a76 := Tryd.isAgg108
  z76 := Tryd.sizeOf108
  v76 := Tryd.zeroValue108
  t109 := Tryd.underlying100
  a109 := Tryd.isAgg100
  z109 := Tryd.sizeOf100
  v109 := Tryd.zeroValue100
  t127 := Tryd.underlying123
  a127 := Tryd.isAgg123
  z127 := Tryd.sizeOf123
  v127 := Tryd.zeroValue123
  t146 := Tryd.underlying119
  a146 := Tryd.isAgg119
  z146 := Tryd.sizeOf119
  v146 := Tryd.zeroValue119
  t148 := Tryd.underlying121
  a148 := Tryd.isAgg121
  z148 := Tryd.sizeOf121
  v148 := Tryd.zeroValue121
  t164 := Tryd.underlying127
  a164 := Tryd.isAgg127
  z164 := Tryd.sizeOf127
  v164 := Tryd.zeroValue127 }
theorem Tryd.Builder_Extra_105 : Builder.Extra Tryd.prog Tryd.lays105_ren := {
  sizeBuilder := by kernel_rfl
  liesBuilder := by kernel_rfl
  t5 := Tryd.underlying5
  a5 := Tryd.isAgg5
  z5 := Tryd.sizeOf5
  v5 := Tryd.zeroValue5
  infoByte := by kernel_rfl
  cellsByte := by kernel_rfl
  sizeByte := by kernel_rfl
  neB5 := by decide }
open Go.RowKit Go.Lib in
theorem Tryd.strings_Repeat (s : ByteArray) (c : Nat) (w : World) (hc : c ≤ 9223372036854775807) (hlen : s.size * c ≤ 140737488355328) :
    Calls Tryd.prog 72 #[.string s, .int .i64 c] w fun e w' => e = .returned (.string ⟨(Lib.repeatL s.data.toList c).toArray⟩) ∧ Below w.heap.size w w' := Any.strings_Repeat Tryd.lays105 Tryd.Builder_Extra_105 s c w hc hlen
end Go.Proofs

/- What the document's own answers on rows are: CheckRow of any text, RowOf of any number from 0 on, OfBytes of at most 125 bytes. -/
namespace Go.Proofs.YtihiboccibidgacDoor
open Go.ChangeShapes Go.WideShapes Go.ChangeAt Go.RowKit
namespace Bw
open Bm

set_option maxHeartbeats 1000000 in
theorem formatInt2 (n : Nat) (w : World) (h : w.cell? ⟨5, 1, none⟩ = some (.int .u8 1)) (hn : n < 2 ^ 63) :
    Calls Tryd.prog 71 #[.int .i64 n, .int .i64 2] w fun e w' => ∃ j, j ≤ 63 ∧ n < 2 ^ (j + 1) ∧ (j = 0 ∨ 2 ^ j ≤ n) ∧ e = .returned (.string ⟨(bitsHead n (j + 1) (j + 1)).toArray⟩) ∧ Below w.heap.size w w' := by
  have hc := formatBits2 n w h hn
  have hn' : (n : Int) < 9223372036854775808 := by omega
  have H := Hid.mk hc
  clear hc h hn
  go_enter Tryd.func71, Tryd.ntmps71
  go_wp2_with (go_at_call 77; go_in)
  refine H.out.mono ?_
  rintro e w1 ⟨j, h1, h2, h3, rfl, hb⟩
  go_wp2_with fail
  go_ret
  exact ⟨j, h1, h2, h3, rfl, hb⟩

theorem repeat_zero (c : Nat) : Lib.repeatL [48] c = List.replicate c 48 := by
  induction c with
  | zero => rfl
  | succ c ih => rw [Lib.repeatL, ih, List.replicate_succ]; rfl

theorem bitAt_high (n j : Nat) (h : n < 2 ^ j) : bitAt n j = 48 := by
  unfold bitAt; rw [Nat.div_eq_of_lt h]; rfl
theorem pad_row (n j size : Nat) (hn : n < 2 ^ j) (hj : j ≤ size) : List.replicate (size - j) 48 ++ bitsHead n j j = bitsHead n size size := by
  apply List.ext_getElem
  · rw [List.length_append, List.length_replicate, bitsHead_length, bitsHead_length]; omega
  · intro i h1 h2
    rw [bitsHead_length] at h2
    by_cases hi : i < size - j
    · rw [List.getElem_append_left (by simpa using hi)]
      simp only [List.getElem_replicate, bitsHead, List.getElem_map, List.getElem_range]
      exact (bitAt_high n _ (Nat.lt_of_lt_of_le hn (Nat.pow_le_pow_right (by omega) (by omega)))).symm
    · rw [List.getElem_append_right (by simpa using hi)]
      simp only [List.length_replicate, bitsHead, List.getElem_map, List.getElem_range]
      congr 1; omega
end Bw
end Go.Proofs.YtihiboccibidgacDoor

/- What the document's own RowOf answers of any number from 0 on, and OfBytes of any bytes up to 125. -/
namespace Go.Proofs.YtihiboccibidgacDoor
open Go.ChangeShapes Go.WideShapes Go.ChangeAt Go.RowKit
namespace Bw
open Bm

theorem rep0 (c : Nat) (w : World) (hc : c ≤ 100000) :
    Calls Tryd.prog 72 #[.string ⟨#[48]⟩, .int .i64 c] w fun e w' => ∃ zb : ByteArray, e = .returned (.string zb) ∧ zb.data.toList = List.replicate c 48 ∧ Below w.heap.size w w' := by
  have := Tryd.strings_Repeat ⟨#[48]⟩ c w (by omega) (by show 1 * c ≤ _; omega)
  rw [show (ByteArray.mk #[48]).data.toList = [48] from rfl, repeat_zero] at this
  exact this.mono fun e w' ⟨he, hb⟩ => ⟨_, he, mk_list _, hb⟩

set_option maxHeartbeats 1000000 in
theorem rowOf_zero (size : Nat) (w : World) (hs : size ≤ 62) :
    Calls Tryd.prog 58 #[.int .i64 0, .int .i64 size] w fun e w' => e = .returned (.tuple #[.string ⟨(bitsHead 0 size size).toArray⟩, .bool true]) ∧ Below w.heap.size w w' := by
  have hr := fun W => rep0 size W (by omega)
  have e0 : List.replicate size 48 = bitsHead 0 size size := by
    have := pad_row 0 0 size (by omega) (by omega)
    simpa [bitsHead] using this
  rw [e0] at hr
  clear e0
  go_enter Tryd.func58, Tryd.ntmps58
  go_wp2_with fail
  refine (hr _).mono ?_
  rintro e w1 ⟨zb, rfl, hz, hb⟩
  have hzs := ba_size hz
  rw [bitsHead_length] at hzs
  have hzb : (zb.size : Int) ≤ 62 := by omega
  have HZ := Hid.mk hz
  have hcat : (zb ++ (ByteArray.mk #[])).data.toList = bitsHead 0 size size := by rw [ba_cat, hz]; simp
  have HC := Hid.mk hcat
  clear hr hz hcat hzs
  go_wp2_with fail
  go_ret2
  exact ⟨ret_str2 HC.out, hb⟩

set_option maxHeartbeats 1000000 in
theorem rowOf_pos (n size : Nat) (w : World) (h : w.cell? ⟨5, 1, none⟩ = some (.int .u8 1)) (h0 : 0 < n) (hn : n < 2 ^ 63) (hs : size ≤ 62) :
    Calls Tryd.prog 58 #[.int .i64 n, .int .i64 size] w fun e w' =>
      (n < 2 ^ size → e = .returned (.tuple #[.string ⟨(bitsHead n size size).toArray⟩, .bool true])) ∧ (¬ n < 2 ^ size → e = .returned (.tuple #[.string ⟨#[]⟩, .bool false])) ∧ Below w.heap.size w w' := by
  have hf := formatInt2 n w h hn
  have HN := Hid.mk hn
  have H := Hid.mk hf
  clear hf h hn
  go_enter Tryd.func58, Tryd.ntmps58
  go_wp2_with fail
  refine H.out.mono ?_
  rintro e w1 ⟨j, h1, h2, h3, rfl, hb⟩
  have hsz := mk_size (bitsHead n (j + 1) (j + 1))
  rw [bitsHead_length] at hsz
  have hge : 2 ^ j ≤ n := by rcases h3 with rfl | h3; (simp; omega); exact h3
  have HL := mk_list (bitsHead n (j + 1) (j + 1))
  have hdec : j + 1 ≤ size ↔ n < 2 ^ size := by
    constructor
    · intro h; exact Nat.lt_of_lt_of_le h2 (Nat.pow_le_pow_right (by omega) h)
    · intro h
      rcases Nat.lt_or_ge j size with h' | h'
      · exact h'
      · exact absurd (Nat.le_trans (Nat.pow_le_pow_right (show 0 < 2 by omega) h') hge) (by omega)
  by_cases hj : j + 1 ≤ size
  · have hpad := pad_row n (j + 1) size h2 hj
    have hlt := hdec.1 hj
    have HLT := Hid.mk hlt
    have HP := Hid.mk hpad
    generalize ByteArray.mk (bitsHead n (j + 1) (j + 1)).toArray = sb at *
    have hr := fun W => rep0 (size - (j + 1)) W (by omega)
    have hbb : (sb.size : Int) ≤ (size : Int) := by omega
    have HR := Hid.mk hr
    have HSZ := Hid.mk hsz
    have HLL := Hid.mk HL
    clear hpad hlt hdec h2 h3 hge HL H hr hsz
    go_wp2_with fail
    rw [show (size : Int) - (sb.size : Int) = ((size - (j + 1) : Nat) : Int) by have := HSZ.out; omega]
    refine (HR.out _).mono ?_
    rintro e w2 ⟨zb, rfl, hz, hb2⟩
    have hzs := ba_size hz
    rw [List.length_replicate] at hzs
    have hzb : (zb.size : Int) ≤ 62 := by omega
    have hcat : (zb ++ sb).data.toList = bitsHead n size size := by rw [ba_cat, hz, HLL.out]; exact HP.out
    have HC := Hid.mk hcat
    clear HR hz hcat hzs
    go_wp2_with fail
    go_ret2
    exact ⟨fun _ => ret_str2 HC.out, fun h => absurd HLT.out h, bl2 hb hb2⟩
  · have hnlt : ¬ n < 2 ^ size := fun h => hj (hdec.2 h)
    have HLT := Hid.mk hnlt
    generalize ByteArray.mk (bitsHead n (j + 1) (j + 1)).toArray = sb at *
    have hbb : (size : Int) < (sb.size : Int) := by omega
    have hb63 : (sb.size : Int) ≤ 64 := by omega
    clear hnlt hdec h2 h3 hge HL H hsz
    go_wp2_with fail
    go_ret2
    exact ⟨fun h => absurd h HLT.out, fun _ => rfl, hb⟩
end Bw
end Go.Proofs.YtihiboccibidgacDoor

/- What the document's own RowOf answers of a number that fits. -/
namespace Go.Proofs.YtihiboccibidgacDoor
open Go.ChangeShapes Go.WideShapes Go.ChangeAt Go.RowKit
namespace Ww
open Bm

theorem rowOf_fit (V s : Nat) (w : World) (h : w.cell? ⟨5, 1, none⟩ = some (.int .u8 1)) (hs : s ≤ 30) (hV : V < 2 ^ s) :
    Calls Tryd.prog 58 #[.int .i64 V, .int .i64 s] w fun e w' => e = .returned (.tuple #[.string ⟨(Bw.bitsHead V s s).toArray⟩, .bool true]) ∧ Below w.heap.size w w' := by
  by_cases h0 : V = 0
  · subst h0; exact Bw.rowOf_zero s w (by omega)
  · have h63 : V < 2 ^ 63 := Nat.lt_of_lt_of_le hV (Nat.pow_le_pow_right (Nat.succ_pos 1) (by omega))
    refine (Bw.rowOf_pos V s w h (by omega) h63 (by omega)).mono ?_
    rintro e w' ⟨h1, _, h3⟩
    exact ⟨h1 hV, h3⟩
end Ww
end Go.Proofs.YtihiboccibidgacDoor

/- What the document's own NameOf answers of a right frame. -/
namespace Go.Proofs.YtihiboccibidgacDoor
open Go.ChangeShapes Go.WideShapes Go.ChangeAt Go.RowKit
namespace Bw
open Bm Cm

set_option maxHeartbeats 4000000 in
theorem nameOf_any (f : Fr) (a : Option Addr) (len cap : Nat) (w : World) (h : w.cell? ⟨5, 1, none⟩ = some (.int .u8 1)) (h0 : 0 ≤ f.id) (h1 : f.id ≤ topI f.lo) :
    Calls Tryd.prog 57 #[frameV f.id f.lo f.fa f.re f.sz a len cap] w fun e w' => e = .returned (.string ⟨(nameL f).toArray⟩) ∧ Below w.heap.size w w' := by
  obtain ⟨id, lo, fa, re, sz, dt⟩ := f
  obtain ⟨n, rfl⟩ : ∃ n : Nat, id = (n : Int) := ⟨id.toNat, by simp only at h0; omega⟩
  simp only at h0 h1 ⊢
  unfold frameV
  have hb0 : Below w.heap.size w (w.alloc (.cells #[.int .i64 n, .bool lo, .bool fa, .bool re, .int .i64 sz, .slice a len cap] 33)) := (Below.refl _ _).alloc (Nat.le_refl _) _
  have hcell := cell_kept hb0 h
  cases lo
  · have hn : n < 2 ^ 11 := by simp [topI] at h1; omega
    have hr := Ww.rowOf_fit n 11 _ hcell (by omega) hn
    have hS := mk_list (bitsHead n 11 11)
    generalize ByteArray.mk (bitsHead n 11 11).toArray = S at *
    have hSs : S.size ≤ 11 := by rw [ba_size hS, bitsHead_length]; exact Nat.le_refl _
    have HSL := Hid.mk hS
    have HR := Hid.mk hr
    clear hr hcell hn h1 h0 hS
    cases re
    all_goals focus
      go_enter Tryd.func57, Tryd.ntmps57
      go_wp2_with fail
      refine HR.out.mono ?_
      rintro e w1 ⟨rfl, hb1⟩
      have hbel1 := bl2 hb0 hb1
      clear hb0 hb1 HR
      go_wp2_with fail
      go_ret
      exact ⟨ret_str1 (by rw [ba_cat, ba_cat, HSL.out, nameL]; simp [bitB]), hbel1⟩
  · have hn : n < 2 ^ 29 := by simp [topI] at h1; omega
    have hr := Ww.rowOf_fit n 29 _ hcell (by omega) hn
    have hS := mk_list (bitsHead n 29 29)
    generalize ByteArray.mk (bitsHead n 29 29).toArray = S at *
    have hSz : S.size = 29 := by rw [ba_size hS, bitsHead_length]
    have hSs : S.size ≤ 29 := by omega
    have hx1 : (S.extract 0 11).data.toList = (bitsHead n 29 29).take 11 := by
      have := extract_list S 0 11
      rw [Nat.zero_add] at this
      rw [this, List.drop_zero, hS]
    have hx2 : (S.extract 11 S.size).data.toList = (bitsHead n 29 29).drop 11 := by
      have e : S.size = 11 + (S.size - 11) := by omega
      rw [e, extract_list S 11 (S.size - 11), hS, List.take_of_length_le (by simp [bitsHead_length]; omega)]
    have hs1 : ∀ W, (Instr.slice 9 (.string S) none (some (.int .i64 11)) none).run Tryd.prog W = .ok (.string (S.extract 0 11)) W := by
      intro W
      rw [run_slice_string_h W _ S Tryd.underlying9 .i64 _ (by omega) (by omega)]; rfl
    have hs2 : ∀ W, (Instr.slice 9 (.string S) (some (.int .i64 11)) none none).run Tryd.prog W = .ok (.string (S.extract 11 S.size)) W := by
      intro W
      rw [run_slice_string_l W _ S Tryd.underlying9 .i64 _ (by omega) (by omega)]; rfl
    have hz1 : (S.extract 0 11).size ≤ 29 := by rw [ba_size hx1, List.length_take]; omega
    have hz2 : (S.extract 11 S.size).size ≤ 29 := by rw [ba_size hx2, List.length_drop, bitsHead_length]; omega
    generalize S.extract 0 11 = X1 at *
    generalize S.extract 11 S.size = X2 at *
    have HX1 := Hid.mk hx1
    have HX2 := Hid.mk hx2
    have HR := Hid.mk hr
    clear hr hcell hn h1 h0 hS hSz hx1 hx2
    cases re
    all_goals focus
      go_enter Tryd.func57, Tryd.ntmps57
      go_wp2_with fail
      refine HR.out.mono ?_
      rintro e w1 ⟨rfl, hb1⟩
      have hbel1 := bl2 hb0 hb1
      clear hb0 hb1 HR
      go_wp2_with fail
      go_quiet (fail)
      have hbel2 : Below w.heap.size w (w1.drewN nq) := bl2 hbel1 ⟨rfl, rfl, rfl, Nat.le_refl _, fun _ _ => rfl⟩
      clear hs1 hs2 hbel1
      go_wp2_with fail
      go_ret
      exact ⟨ret_str1 (by rw [ba_cat, ba_cat, ba_cat, HX1.out, HX2.out, nameL]; simp [bitB]), hbel2⟩
end Bw
end Go.Proofs.YtihiboccibidgacDoor
