/- What the library's Replacer builds out of 0, 1, 1, 0: a table of bytes that changes 0 for 1 and 1 for 0. -/
import Derived.Test.YtcoemhndpmdccaaDoorRepl1
import Derived.Deep.WholeRow
namespace Go.Proofs.YtcoemhndpmdccaaDoor
open Go.ChangeShapes Go.WideShapes Go.ChangeAt Go.RowKit
namespace Bw
open Bm

def OldNew (w : World) (S : Nat) : Prop := w.cell? ⟨S, 0, none⟩ = some (.string ⟨#[48]⟩) ∧ w.cell? ⟨S, 1, none⟩ = some (.string ⟨#[49]⟩) ∧ w.cell? ⟨S, 2, none⟩ = some (.string ⟨#[49]⟩) ∧ w.cell? ⟨S, 3, none⟩ = some (.string ⟨#[48]⟩)

def TabBlk (w : World) (g : Nat) : Prop := ∃ cur : Array Value, w.heap[g]? = some (.cells cur 128 (0, 0)) ∧ cur.size = 256

set_option maxHeartbeats 8000000 in
theorem build_any (B S cap : Nat) (w : World) (hc : w.cell? ⟨B, 4, none⟩ = some (.slice (some ⟨S, 0, none⟩) 4 cap)) (ho : OldNew w S) :
    Calls Tryd.prog 57 #[.pointer (some ⟨B, 0, none⟩)] w fun e w' => e = .returned (.iface 129 (.pointer (some ⟨w.heap.size, 0, none⟩))) ∧ TabAt w' w.heap.size ∧ Below w.heap.size w w' := by
  obtain ⟨o0, o1, o2, o3⟩ := ho
  go_enter Tryd.func57, Tryd.ntmps57
  go_wp2_with fail
  go_loop [4, 5] (fun b i => b = .bool true ∧ (i = .int .i64 0 ∨ i = .int .i64 2 ∨ i = .int .i64 4)) (fun _ i => 4 - (intOf i).toNat)
  case atStart => exact ⟨rfl, Or.inl rfl⟩
  case round =>
    obtain ⟨rfl, hi⟩ := hrel
    rcases hi with rfl | rfl | rfl
    · go_wp2_with fail
      go_round
      case rel => exact ⟨rfl, Or.inr (Or.inl rfl)⟩
      case measure => simp [intOf]
    · go_wp2_with fail
      go_round
      case rel => exact ⟨rfl, Or.inr (Or.inr rfl)⟩
      case measure => simp [intOf]
    · have hst := _root_.Go.run_storeCells_new (P := Tryd.prog) w 128 Tryd.zeroCells128 Tryd.zeroCells128 (by kernel_rfl) rfl (by kernel_rfl)
      go_wp2_with fail
      have hb0 : Below w.heap.size w (w.alloc (.cells Tryd.zeroCells128 128)) := (Below.refl _ _).alloc (Nat.le_refl _) _
      have HB0 := Hid.mk hb0
      have HO : Hid (OldNew w S) := ⟨o0, o1, o2, o3⟩
      clear hst hb0 o0 o1 o2 o3 hc
      go_loopw [61] (fun i wr => ∃ k : Nat, k ≤ 256 ∧ i = .int .i64 k ∧ TabBlk wr w.heap.size ∧ Below w.heap.size w wr) (fun i _ => 256 - (intOf i).toNat)
      case atStart => exact ⟨0, by omega, rfl, ⟨_, heap_alloc_new w _, by kernel_rfl⟩, HB0.out⟩
      case round =>
        obtain ⟨k, hk, rfl, ⟨cur, hcur, hcs⟩, hbel⟩ := hrel
        by_cases hlt : k < 256
        · have hlt' : (k : Int) < 256 := by omega
          have hc1 := cell_of_row wr w.heap.size k cur _ _ hcur
          obtain ⟨cv, hcv⟩ : ∃ cv, cur[k]? = some cv := ⟨_, Array.getElem?_eq_getElem (by omega)⟩
          rw [hcv] at hc1
          have hf1 := frozen_of_row wr w.heap.size k cur _ hcur
          have hst := heap_setCell_same wr w.heap.size k cur _ (.int .u8 (k : Int)) hcur
          have HST : Hid (TabBlk (wr.setCell ⟨w.heap.size, k, none⟩ (.int .u8 (k : Int))) w.heap.size) := ⟨_, hst, by simpa using hcs⟩
          have HBL := Hid.mk (hbel.setCell (p := ⟨w.heap.size, k, none⟩) (Nat.le_refl _) (.int .u8 (k : Int)))
          clear hst hcur hcs hcv hbel
          set_option maxRecDepth 100000 in
          go_wp2_with fail
          go_roundw
          case rel => exact ⟨k + 1, by omega, by go_num, HST.out, HBL.out⟩
          case measure => simp [intOf]; omega
        · have hk256 : (256 : Int) ≤ (k : Int) := by omega
          have HT0 : Hid (TabBlk wr w.heap.size) := ⟨cur, hcur, hcs⟩
          clear hcur hcs
          set_option maxRecDepth 100000 in
          go_wp2_with fail
          go_loopw [8] (fun i wq => TabBlk wq w.heap.size ∧ Below w.heap.size w wq ∧ (i = .int .i64 2 ∨ (i = .int .i64 0 ∧ wq.cell? ⟨w.heap.size, 49, none⟩ = some (.int .u8 48)) ∨ (i = .int .i64 (-2) ∧ TabAt wq w.heap.size))) (fun i _ => (intOf i + 2).toNat)
          case atStart => exact ⟨HT0.out, hbel, Or.inl rfl⟩
          case round =>
            clear HT0 hbel
            obtain ⟨⟨cur, hcur, hcs⟩, hbel, hway⟩ := hrel
            have d48 : ((ByteArray.mk #[48])[0]'(by decide)).toNat = 48 := rfl
            have d49 : ((ByteArray.mk #[49])[0]'(by decide)).toNat = 49 := rfl
            have q0 := cell_kept hbel HO.out.1
            have q1 := cell_kept hbel HO.out.2.1
            have q2 := cell_kept hbel HO.out.2.2.1
            have q3 := cell_kept hbel HO.out.2.2.2
            rcases hway with rfl | ⟨rfl, h49⟩ | ⟨rfl, hT⟩
            · have hc1 := cell_of_row wr w.heap.size 49 cur _ _ hcur
              obtain ⟨cv, hcv⟩ : ∃ cv, cur[49]? = some cv := ⟨_, Array.getElem?_eq_getElem (by omega)⟩
              rw [hcv] at hc1
              have hf1 := frozen_of_row wr w.heap.size 49 cur _ hcur
              have hst := heap_setCell_same wr w.heap.size 49 cur _ (.int .u8 48) hcur
              have HST : Hid (TabBlk (wr.setCell ⟨w.heap.size, 49, none⟩ (.int .u8 48)) w.heap.size) := ⟨_, hst, by simpa using hcs⟩
              have HC : Hid ((wr.setCell ⟨w.heap.size, 49, none⟩ (.int .u8 48)).cell? ⟨w.heap.size, 49, none⟩ = some (.int .u8 48)) := World.cell?_setCell_same _ _ _ hc1
              have HBL := Hid.mk (hbel.setCell (p := ⟨w.heap.size, 49, none⟩) (Nat.le_refl _) (.int .u8 48))
              clear hst hcur hcs hcv hbel
              set_option maxRecDepth 100000 in
              go_wp2_with fail
              go_roundw
              case rel => exact ⟨HST.out, HBL.out, Or.inr (Or.inl ⟨rfl, HC.out⟩)⟩
              case measure => simp [intOf]
            · have hc1 := cell_of_row wr w.heap.size 48 cur _ _ hcur
              obtain ⟨cv, hcv⟩ : ∃ cv, cur[48]? = some cv := ⟨_, Array.getElem?_eq_getElem (by omega)⟩
              rw [hcv] at hc1
              have hf1 := frozen_of_row wr w.heap.size 48 cur _ hcur
              have hst := heap_setCell_same wr w.heap.size 48 cur _ (.int .u8 49) hcur
              have HST : Hid (TabBlk (wr.setCell ⟨w.heap.size, 48, none⟩ (.int .u8 49)) w.heap.size) := ⟨_, hst, by simpa using hcs⟩
              have HC : Hid (TabAt (wr.setCell ⟨w.heap.size, 48, none⟩ (.int .u8 49)) w.heap.size) := ⟨World.cell?_setCell_same _ _ _ hc1, by rw [World.cell?_setCell_other (h := by intro x; cases x)]; exact h49⟩
              have HBL := Hid.mk (hbel.setCell (p := ⟨w.heap.size, 48, none⟩) (Nat.le_refl _) (.int .u8 49))
              clear hst hcur hcs hcv hbel h49
              set_option maxRecDepth 100000 in
              go_wp2_with fail
              go_roundw
              case rel => exact ⟨HST.out, HBL.out, Or.inr (Or.inr ⟨rfl, HC.out⟩)⟩
              case measure => simp [intOf]
            · have HTT := Hid.mk hT
              clear hcur hcs hT
              set_option maxRecDepth 100000 in
              go_wp2_with fail
              go_ret
              exact ⟨rfl, HTT.out, hbel⟩
end Bw
end Go.Proofs.YtcoemhndpmdccaaDoor
