/- The library's sync.Once round a Replacer's build, in a run of one goroutine: the lock is taken, the table is built once, the lock is let go. -/
import Derived.Test.YtcoemhndpmdccaaDoorRepl2
import Derived.Defers
import Derived.Laws.Pointers
import Derived.Laws.LoneSync
import Derived.RegionTactic
import Derived.RegionCalls
import Derived.ChangeAlike
namespace Go.Proofs.YtcoemhndpmdccaaDoor
open Go.ChangeShapes Go.WideShapes Go.ChangeAt Go.RowKit
namespace Bw
open Bm

theorem disable (w : World) : (callFunc 99 #[]).run Tryd.prog w = .ok (.value (.tuple #[])) w := run_call_mark0 Tryd.func99 (by kernel_rfl) (by kernel_rfl) (by kernel_rfl) .disable (by kernel_rfl) w
theorem enable (w : World) : (callFunc 101 #[]).run Tryd.prog w = .ok (.value (.tuple #[])) w := run_call_mark0 Tryd.func101 (by kernel_rfl) (by kernel_rfl) (by kernel_rfl) .enable (by kernel_rfl) w
theorem acquire (a : Addr) (w : World) : (callFunc 102 #[.pointer (some a)]).run Tryd.prog w = .ok (.value (.tuple #[])) w := run_call_marked Tryd.func102 (by kernel_rfl) (by kernel_rfl) (by kernel_rfl) .acquire (by kernel_rfl) a w
theorem releaseMerge (a : Addr) (w : World) : (callFunc 104 #[.pointer (some a)]).run Tryd.prog w = .ok (.value (.tuple #[])) w := run_call_marked Tryd.func104 (by kernel_rfl) (by kernel_rfl) (by kernel_rfl) .releaseMerge (by kernel_rfl) a w

theorem store_deferred (a : Addr) (x : Value) (u : FrameMode) (w : World) (hc : w.cell? a = some x) (hz : w.frozen? a = false) :
    CallsD Tryd.prog 74 #[.pointer (some a), .bool true] u w fun e u' w' => u' = u ∧ (e = .returned (.tuple #[]) ∧ w' = (w.setCell a (.int .u32 1)).drew) := by
  have hc' : w.drew.cell? a = some x := by go_simp
  have hz' : w.drew.frozen? a = false := by go_simp
  have hst := run_call_store (P := Tryd.prog) Tryd.func91 (by kernel_rfl) (by kernel_rfl) (by kernel_rfl) (by kernel_rfl) (k := .u32) (y := 1) hc' hz'
  go_enter_d Tryd.func74, Tryd.ntmps74
  go_wp2
  go_region_calls
  all_goals (go_end0; exact ⟨rfl, rfl⟩)

set_option maxRecDepth 100000 in
set_option maxHeartbeats 1600000 in
theorem unlock_deferred (a : Addr) (u : FrameMode) (w : World) (hc : w.cell? a = some (.int .i32 1)) (hz : w.frozen? a = false) :
    CallsD Tryd.prog 73 #[.pointer (some a)] u w fun e u' w' => u' = u ∧ (e = .returned (.tuple #[]) ∧ w' = w.setCell a (.int .i32 0)) := by
  have hd := disable
  have he := enable
  have hr := releaseMerge
  have hadd := run_call_add (P := Tryd.prog) Tryd.func105 (by kernel_rfl) (by kernel_rfl) (by kernel_rfl) .i32 (by kernel_rfl) (y := -1) (s := 0) hc hz (by simp [go_sem]; rfl)
  have hcv := run_convert_to_unsafe (P := Tryd.prog) (src := 162) (dst := 135) Tryd.underlying162 Tryd.underlying135 (by kernel_rfl) hc
  go_enter_d Tryd.func73, Tryd.ntmps73
  go_wp2
  go_end0
  go_wp2
  go_end0
  exact ⟨rfl, rfl⟩

set_option maxRecDepth 100000 in
set_option maxHeartbeats 1600000 in
theorem lock_free (a : Addr) (w : World) (hc : w.cell? a = some (.int .i32 0)) (hz : w.frozen? a = false) :
    Calls Tryd.prog 72 #[.pointer (some a)] w fun e w' => e = .returned (.tuple #[]) ∧ w' = w.setCell a (.int .i32 1) := by
  have hd := disable
  have he := enable
  have ha := acquire
  have hcas := run_call_cas_hit (P := Tryd.prog) Tryd.func100 (by kernel_rfl) (by kernel_rfl) (by kernel_rfl) .i32 (by kernel_rfl) (y := 1) hc hz
  have hc' : (w.setCell a (.int .i32 1)).cell? a = some (.int .i32 1) := World.cell?_setCell_same w a _ hc
  have hcv := run_convert_to_unsafe (P := Tryd.prog) (src := 162) (dst := 135) Tryd.underlying162 Tryd.underlying135 (by kernel_rfl) hc'
  go_enter Tryd.func72, Tryd.ntmps72
  go_wp2
  first | go_end0 | (simp only [Exit.inBlock, Exit.then]; refine bodyPost_ret (results_none rfl _ _ _) rfl ?_) | refine bodyPost_ret (results_none rfl _ _ _) rfl ?_
  go_wp2
  go_end0
  exact ⟨rfl, rfl⟩

/-- a Replacer's block: whether it is done, the lock's word, what replaces, what was told -/
def RepBlk (w : World) (B : Nat) (d st : Int) (x y : Value) : Prop := w.heap[B]? = some (.cells #[.int .u32 d, .int .i32 st, .int .u32 0, x, y] 80 (0, 0))

theorem OldNew.kept {w w' : World} {S : Nat} (h : OldNew w S) (hs : w'.heap[S]? = w.heap[S]?) : OldNew w' S := by
  have e : ∀ i, w'.cell? ⟨S, i, none⟩ = w.cell? ⟨S, i, none⟩ := fun i => World.cell?_of_block (w := w) hs
  exact ⟨(e 0).trans h.1, (e 1).trans h.2.1, (e 2).trans h.2.2.1, (e 3).trans h.2.2.2⟩

set_option maxHeartbeats 2000000 in
theorem buildOnce_any (B S cap : Nat) (d st : Int) (w : World) (hB : RepBlk w B d st .nilIface (.slice (some ⟨S, 0, none⟩) 4 cap)) (ho : OldNew w S) :
    Calls Tryd.prog 35 #[.pointer (some ⟨B, 0, none⟩)] w fun e w' => e = .returned (.tuple #[]) ∧ (∃ T, RepBlk w' B d st (.iface 129 (.pointer (some ⟨T, 0, none⟩))) (.slice none 0 0) ∧ TabAt w' T ∧ T ≠ B) ∧ Below B w w' := by
  unfold RepBlk at hB
  have hBl : B < w.heap.size := by
    rcases Nat.lt_or_ge B w.heap.size with h | h
    · exact h
    · rw [Array.getElem?_eq_none h] at hB; cases hB
  have hc4 := cell_of_row w B 4 _ _ _ hB
  simp only [List.getElem?_toArray, List.getElem?_cons_zero, List.getElem?_cons_succ] at hc4
  have hbuild := build_any B S cap w hc4 ho
  have HBu := Hid.mk hbuild
  have HB := Hid.mk hB
  clear hc4 hB hbuild
  go_enter Tryd.func35, Tryd.ntmps35
  go_wp2_with fail
  refine HBu.out.mono ?_
  rintro e w1 ⟨rfl, hT, hb1⟩
  have hB1 : w1.heap[B]? = _ := (hb1.block B hBl).trans HB.out
  have c3 := cell_of_row w1 B 3 _ _ _ hB1
  have c4 := cell_of_row w1 B 4 _ _ _ hB1
  have f3 := frozen_of_row w1 B 3 _ _ hB1
  have f4 := frozen_of_row w1 B 4 _ _ hB1
  simp only [List.getElem?_toArray, List.getElem?_cons_zero, List.getElem?_cons_succ] at c3 c4
  have s1 := heap_setCell_same w1 B 3 _ _ (.iface 129 (.pointer (some ⟨w.heap.size, 0, none⟩))) hB1
  have s2 := heap_setCell_same _ B 4 _ _ (.slice none 0 0) s1
  have HS := Hid.mk s2
  have hbl : Below B w ((w1.setCell ⟨B, 3, none⟩ (.iface 129 (.pointer (some ⟨w.heap.size, 0, none⟩)))).setCell ⟨B, 4, none⟩ (.slice none 0 0)) :=
    ((hb1.mono (Nat.le_of_lt hBl)).setCell (Nat.le_refl _) _).setCell (Nat.le_refl _) _
  have hTT : TabAt ((w1.setCell ⟨B, 3, none⟩ (.iface 129 (.pointer (some ⟨w.heap.size, 0, none⟩)))).setCell ⟨B, 4, none⟩ (.slice none 0 0)) w.heap.size := by
    constructor
    · rw [World.cell?_setCell_other (h := by intro x; cases x), World.cell?_setCell_other (h := by intro x; cases x)]; exact hT.1
    · rw [World.cell?_setCell_other (h := by intro x; cases x), World.cell?_setCell_other (h := by intro x; cases x)]; exact hT.2
  have HBL := Hid.mk hbl
  have HTT := Hid.mk hTT
  clear s1 s2 hbl hTT hT hB1 HBu HB hb1
  go_wp2_with fail
  go_end0
  exact ⟨rfl, ⟨_, HS.out, HTT.out, by omega⟩, HBL.out⟩
end Bw
end Go.Proofs.YtcoemhndpmdccaaDoor
