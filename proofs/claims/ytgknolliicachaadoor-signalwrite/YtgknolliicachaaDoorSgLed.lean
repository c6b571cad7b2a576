/- The closed fact that the laws of stage 9 ask first: what a signal 'speed' reads and writes. -/
import Derived.Test.YtgknolliicachaaDoorSgWrite
import Derived.Test.YtgknolliicachaaDoorEqualB
namespace Go.Proofs.YtgknolliicachaaDoor
open Go.ChangeShapes Go.WideShapes Go.ChangeAt Go.RowKit Go.Sort
namespace Bw
open Sm
def spS : Sig := ⟨⟨#[115, 112, 101, 101, 100]⟩, 8, 16, false, false, 1, 10, 0, -1⟩
theorem sp_chk : chkS spS ((3 : Nat) : Int) = 0 := by kernel_rfl
theorem sp_wf : wfS spS := ⟨⟨by decide, by decide⟩, by decide⟩
theorem sp_rt : Rt spS 8 16 3 := ⟨rfl, rfl, by decide, by decide, by decide, by decide, by decide, by decide, by decide, by decide, by decide, by decide, by decide⟩
theorem sp_raw : rawR spS 8 16 [0, 44, 1] = 300 := by kernel_rfl
theorem sp_num : numL (meanN spS 300) spS.di = 30 := by kernel_rfl
theorem sp_den : denL (meanN spS 300) spS.di = 1 := by kernel_rfl
theorem sp_rawE : rawE spS 16 30 1 = 0 := by kernel_rfl
theorem sp_wr : wrS spS 8 16 [9, 0, 0] (rawV spS 30 1) = [9, 44, 1] := by kernel_rfl
theorem sig_i : (Tryd.prog.info? 23).map (·.size) = some 9 := by kernel_rfl
set_option maxHeartbeats 4000000 in
set_option maxRecDepth 100000 in
theorem speed_any (w : World) :
    Calls Tryd.prog 27 #[] w fun e w' => e = .returned (sgV spS) ∧ Below w.heap.size w w' := by
  have hrow := heap_alloc_new w (sgC spS)
  have HB := Hid.mk (sg_box w spS)
  unfold sgC spS at hrow HB
  simp only at hrow HB
  have HR := Hid.mk hrow
  clear hrow
  go_enter Tryd.func27, Tryd.ntmps27
  go_wp2_with fail
  refine bodyPost_ret (results_cell_row rfl _ _ w.heap.size _ _ _ _ rfl HR.out Tryd.underlying23 rfl sig_i) rfl ?_
  exact ⟨rfl, HB.out⟩
def b3 (x y z : UInt8) : Obj := .cells #[.int .u8 x.toNat, .int .u8 y.toNat, .int .u8 z.toNat] 5
theorem b3_at (w : World) (x y z : UInt8) : IsBytes (w.alloc (b3 x y z)) (some ⟨w.heap.size, 0, none⟩) 3 3 [x, y, z] := by
  refine ⟨rfl, Nat.le_refl _, by unfold maxLen; omega, (fun h => by cases h), fun a ha i hi => ?_⟩
  cases ha
  rw [Addr.add_lit, Nat.zero_add, cell_of_row _ _ i _ _ _ (heap_alloc_new w (b3 x y z))]
  match i, hi with
  | 0, _ => rfl
  | 1, _ => rfl
  | 2, _ => rfl
theorem b3_B (w : World) (x y z : UInt8) : Below w.heap.size w (w.alloc (b3 x y z)) := (Below.refl _ _).alloc (Nat.le_refl _) _
theorem rd_B (w : World) (nm : ByteArray) (n d : Int) : Below w.heap.size w (w.alloc (rdC nm n d)) := (Below.refl _ _).alloc (Nat.le_refl _) _
theorem rd_at (w : World) (nm : ByteArray) (n d : Int) : RdAt3 (w.alloc (rdC nm n d)) w.heap.size nm n d := heap_alloc_new w _
theorem isBytes_own {w : World} {base g n c : Nat} {l : List UInt8} (h : w.ownsRow base 5 1 (.slice (some ⟨g, 0, none⟩) n c) n (cellsOf l)) : IsBytes w (some ⟨g, 0, none⟩) n c l := by
  have h0 := h
  obtain ⟨hl, h2⟩ := h
  have hn : l.length = n := by simpa [cellsOf] using hl
  rcases h2 with ⟨h3, _⟩ | ⟨g', cap, cur, hv, hg, hh, hc, hm, hsz, htk⟩
  · cases h3
  · cases hv
    refine ⟨hn, hc, hm, (fun h => by cases h), fun x hx i hi => ?_⟩
    cases hx
    exact h0.cells rfl i _ (by simp [cellsOf, hn, hi])
theorem hasB {w : World} {a : Option Addr} {n c : Nat} {l : List UInt8} (h : IsBytes w a n c l) : HasBytes w a n l := ⟨h.2.2.2.1, h.2.2.2.2⟩
set_option maxHeartbeats 8000000 in
set_option maxRecDepth 100000 in
theorem signalled_any (w : World) :
    Calls Tryd.prog 8 #[] w fun e w' => e = .returned (.bool true) ∧ Below w.heap.size w w' := by
  have HS := Hid.mk (fun W => speed_any W)
  have hRd := fun a c W (h : IsBytes W a 3 c [0, 44, 1]) => sread_ok spS 8 16 a 3 c _ W sp_wf h sp_chk sp_rt
  rw [sp_raw, sp_num, sp_den] at hRd
  have HRD := Hid.mk hRd
  have hWr := fun a c W (h : IsBytes W a 3 c [9, 0, 0]) => swrite_ok spS 8 16 a 3 c _ 30 1 W sp_wf h sp_chk sp_rt sp_rawE
  rw [sp_wr] at hWr
  have HWR := Hid.mk hWr
  clear hRd hWr
  unfold sgV spS rdV at HRD
  unfold sgV spS at HS HWR
  simp only at HRD HS HWR
  go_enter Tryd.func8, Tryd.ntmps8
  go_wp2_with fail
  refine (HS.out _).mono ?_
  rintro e w1 ⟨rfl, hb1⟩
  have HB1 := Hid.mk hb1
  clear hb1
  go_wp2_with fail
  refine (HRD.out _ _ _ (b3_at w1 0 44 1)).mono ?_
  rintro e w2 ⟨rfl, hb2⟩
  have HB2 := Hid.mk (bl2 HB1.out (bl2 (b3_B w1 0 44 1) hb2))
  have HR2 := Hid.mk (rd_at w2 ⟨#[115, 112, 101, 101, 100]⟩ 30 1)
  have HA2 := Hid.mk (rd_B w2 ⟨#[115, 112, 101, 101, 100]⟩ 30 1)
  unfold rdC at HR2 HA2
  clear hb2
  go_wp2_with fail
  refine (HS.out _).mono ?_
  rintro e w3 ⟨rfl, hb3⟩
  have HB3 := Hid.mk (bl2 HB2.out (bl2 HA2.out hb3))
  have HR3 := Hid.mk (HR2.out.kept hb3)
  clear hb3
  go_wp2_with fail
  refine (HWR.out _ _ _ (b3_at w3 9 0 0)).mono ?_
  rintro e w4 ⟨g, c, rfl, hown, hb4⟩
  have HB4 := Hid.mk (bl2 HB3.out (bl2 (b3_B w3 9 0 0) hb4))
  have HR4 := Hid.mk (HR3.out.kept (bl2 (b3_B w3 9 0 0) hb4))
  have HY := Hid.mk (isBytes_own hown)
  obtain ⟨⟨q0, q1, q2⟩, -, -, -⟩ := HR4.out.cells
  have HE := Hid.mk (equalB_true (w4.alloc (b3 9 44 1)) (some ⟨g, 0, none⟩) (some ⟨w4.heap.size, 0, none⟩) 3 c 3 [9, 44, 1] (by unfold maxLen; omega) (hasB (isBytes_below HY.out (b3_B w4 9 44 1))) (hasB (b3_at w4 9 44 1)))
  have HB5 := Hid.mk (b3_B w4 9 44 1)
  unfold b3 at HE HB5
  clear hb4 hown
  go_wp2_with fail
  refine HE.out.mono ?_
  rintro e w5 ⟨rfl, hb5⟩
  go_wp2_with fail
  go_ret
  exact ⟨rfl, bl2 HB4.out (bl2 HB5.out hb5)⟩
end Bw
end Go.Proofs.YtgknolliicachaaDoor
