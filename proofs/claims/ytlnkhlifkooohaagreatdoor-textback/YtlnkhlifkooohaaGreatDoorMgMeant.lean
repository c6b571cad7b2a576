/- slices.Equal of readings; the closed fact that the laws on messages ask first. -/
import Derived.Test.YtlnkhlifkooohaaGreatDoorMgWriteA
import Derived.Test.YtlnkhlifkooohaaGreatDoorEqualB
namespace Go.Proofs.YtlnkhlifkooohaaGreatDoor
open Go.ChangeShapes Go.WideShapes Go.ChangeAt Go.RowKit
namespace Bw
open Sm
set_option maxHeartbeats 2000000 in
set_option maxRecDepth 100000 in
theorem equalRd_true (w : World) (a b : Option Addr) (n c d : Nat) (l : List Rd) (ha : IsRds w a n c l) (hb : IsRds w b n d l) :
    Calls Tryz.prog 37 #[.slice a n c, .slice b n d] w fun e w' => e = .returned (.bool true) ∧ Below w.heap.size w w' := by
  have hn63 : n ≤ 9223372036854775807 := by have h1 := ha.le; have h2 := ha.max; unfold maxLen at h2; omega
  have HA := Hid.mk ha
  have HB := Hid.mk hb
  clear ha hb
  go_enter Tryz.func37, Tryz.ntmps37
  go_wp2
  go_loopw [13] (fun i w' => ∃ k : Nat, k ≤ n ∧ i = .int .i64 k ∧ ∃ m, w' = w.drewN m) (fun i _ => n - (intOf i).toNat)
  case atStart => exact ⟨0, Nat.zero_le _, rfl, 0, rfl⟩
  case round =>
    obtain ⟨k, hk, rfl, m, rfl⟩ := hrel
    by_cases hlt : k < n
    · obtain ⟨x, hx⟩ := HA.out.some hlt
      obtain ⟨y, hy⟩ := HB.out.some hlt
      cases hx
      cases hy
      obtain ⟨g1, g2, g3⟩ := HA.out.at hlt
      obtain ⟨h1, h2, h3⟩ := HB.out.at hlt
      generalize l.getD k noR = z at *
      obtain ⟨znm, znum, zden⟩ := z
      simp only at g1 g2 g3 h1 h2 h3
      have hlt' : (k : Int) < (n : Int) := by omega
      go_wp2
      go_quiet (fail)
      go_wp2
      go_roundw
      case rel => exact ⟨k + 1, by omega, by go_num, _, rfl⟩
      case measure => simp [intOf]; omega
    · go_wp2
      go_ret
      exact ⟨rfl, ⟨rfl, rfl, rfl, Nat.le_refl _, fun _ _ => rfl⟩⟩
def SixM (w : World) (g : Nat) (c0 c1 c2 c3 c4 c5 : Value) : Prop := w.heap[g]? = some (.cells #[c0, c1, c2, c3, c4, c5] 24 (0, 0))
theorem SixM.lt {w : World} {g : Nat} {c0 c1 c2 c3 c4 c5 : Value} (h : SixM w g c0 c1 c2 c3 c4 c5) : g < w.heap.size := (Array.getElem?_eq_some_iff.1 h).1
theorem SixM.kept {w w' : World} {g : Nat} {c0 c1 c2 c3 c4 c5 : Value} (h : SixM w g c0 c1 c2 c3 c4 c5) (hb : Below w.heap.size w w') : SixM w' g c0 c1 c2 c3 c4 c5 := by unfold SixM; rw [hb.block g h.lt]; exact h
theorem SixM.cells {w : World} {g : Nat} {c0 c1 c2 c3 c4 c5 : Value} (h : SixM w g c0 c1 c2 c3 c4 c5) : (w.cell? ⟨g, 0, none⟩ = some c0 ∧ w.cell? ⟨g, 1, none⟩ = some c1 ∧ w.cell? ⟨g, 2, none⟩ = some c2 ∧ w.cell? ⟨g, 3, none⟩ = some c3 ∧ w.cell? ⟨g, 4, none⟩ = some c4 ∧ w.cell? ⟨g, 5, none⟩ = some c5) ∧ (w.frozen? ⟨g, 0, none⟩ = false ∧ w.frozen? ⟨g, 1, none⟩ = false ∧ w.frozen? ⟨g, 2, none⟩ = false ∧ w.frozen? ⟨g, 3, none⟩ = false ∧ w.frozen? ⟨g, 4, none⟩ = false ∧ w.frozen? ⟨g, 5, none⟩ = false) :=
  ⟨⟨cell_of_row _ _ 0 _ _ _ h, cell_of_row _ _ 1 _ _ _ h, cell_of_row _ _ 2 _ _ _ h, cell_of_row _ _ 3 _ _ _ h, cell_of_row _ _ 4 _ _ _ h, cell_of_row _ _ 5 _ _ _ h⟩, ⟨frozen_of_row _ _ 0 _ _ h, frozen_of_row _ _ 1 _ _ h, frozen_of_row _ _ 2 _ _ h, frozen_of_row _ _ 3 _ _ h, frozen_of_row _ _ 4 _ _ h, frozen_of_row _ _ 5 _ _ h⟩⟩
theorem SixM.store {w : World} {g : Nat} {c0 c1 c2 c3 c4 c5 : Value} (h : SixM w g c0 c1 c2 c3 c4 c5) (d0 d1 d2 d3 d4 d5 : Value) :
    ((w.setCell ⟨g, 0, none⟩ d0).cell? ⟨g, 1, none⟩ = some c1 ∧ (w.setCell ⟨g, 0, none⟩ d0).frozen? ⟨g, 1, none⟩ = false) ∧ (((w.setCell ⟨g, 0, none⟩ d0).setCell ⟨g, 1, none⟩ d1).cell? ⟨g, 2, none⟩ = some c2 ∧ ((w.setCell ⟨g, 0, none⟩ d0).setCell ⟨g, 1, none⟩ d1).frozen? ⟨g, 2, none⟩ = false) ∧ ((((w.setCell ⟨g, 0, none⟩ d0).setCell ⟨g, 1, none⟩ d1).setCell ⟨g, 2, none⟩ d2).cell? ⟨g, 3, none⟩ = some c3 ∧ (((w.setCell ⟨g, 0, none⟩ d0).setCell ⟨g, 1, none⟩ d1).setCell ⟨g, 2, none⟩ d2).frozen? ⟨g, 3, none⟩ = false) ∧ (((((w.setCell ⟨g, 0, none⟩ d0).setCell ⟨g, 1, none⟩ d1).setCell ⟨g, 2, none⟩ d2).setCell ⟨g, 3, none⟩ d3).cell? ⟨g, 4, none⟩ = some c4 ∧ ((((w.setCell ⟨g, 0, none⟩ d0).setCell ⟨g, 1, none⟩ d1).setCell ⟨g, 2, none⟩ d2).setCell ⟨g, 3, none⟩ d3).frozen? ⟨g, 4, none⟩ = false) ∧ ((((((w.setCell ⟨g, 0, none⟩ d0).setCell ⟨g, 1, none⟩ d1).setCell ⟨g, 2, none⟩ d2).setCell ⟨g, 3, none⟩ d3).setCell ⟨g, 4, none⟩ d4).cell? ⟨g, 5, none⟩ = some c5 ∧ (((((w.setCell ⟨g, 0, none⟩ d0).setCell ⟨g, 1, none⟩ d1).setCell ⟨g, 2, none⟩ d2).setCell ⟨g, 3, none⟩ d3).setCell ⟨g, 4, none⟩ d4).frozen? ⟨g, 5, none⟩ = false) ∧ SixM ((((((w.setCell ⟨g, 0, none⟩ d0).setCell ⟨g, 1, none⟩ d1).setCell ⟨g, 2, none⟩ d2).setCell ⟨g, 3, none⟩ d3).setCell ⟨g, 4, none⟩ d4).setCell ⟨g, 5, none⟩ d5) g d0 d1 d2 d3 d4 d5 := by
  have e0 : w.heap[g]? = some (.cells #[c0, c1, c2, c3, c4, c5] 24 (0, 0)) := h
  have e1 := heap_setCell_same _ g 0 _ _ d0 e0
  have e2 := heap_setCell_same _ g 1 _ _ d1 e1
  have e3 := heap_setCell_same _ g 2 _ _ d2 e2
  have e4 := heap_setCell_same _ g 3 _ _ d3 e3
  have e5 := heap_setCell_same _ g 4 _ _ d4 e4
  have e6 := heap_setCell_same _ g 5 _ _ d5 e5
  exact ⟨⟨cell_of_row _ _ 1 _ _ _ e1, frozen_of_row _ _ 1 _ _ e1⟩, ⟨cell_of_row _ _ 2 _ _ _ e2, frozen_of_row _ _ 2 _ _ e2⟩, ⟨cell_of_row _ _ 3 _ _ _ e3, frozen_of_row _ _ 3 _ _ e3⟩, ⟨cell_of_row _ _ 4 _ _ _ e4, frozen_of_row _ _ 4 _ _ e4⟩, ⟨cell_of_row _ _ 5 _ _ _ e5, frozen_of_row _ _ 5 _ _ e5⟩, e6⟩
theorem sixm_B {B : Nat} {a w : World} (h : Below B a w) {g : Nat} (hg : B ≤ g) (d0 d1 d2 d3 d4 d5 : Value) : Below B a ((((((w.setCell ⟨g, 0, none⟩ d0).setCell ⟨g, 1, none⟩ d1).setCell ⟨g, 2, none⟩ d2).setCell ⟨g, 3, none⟩ d3).setCell ⟨g, 4, none⟩ d4).setCell ⟨g, 5, none⟩ d5) :=
  ((((((((((((h).setCell (p := ⟨g, 0, none⟩) hg d0)).setCell (p := ⟨g, 1, none⟩) hg d1)).setCell (p := ⟨g, 2, none⟩) hg d2)).setCell (p := ⟨g, 3, none⟩) hg d3)).setCell (p := ⟨g, 4, none⟩) hg d4)).setCell (p := ⟨g, 5, none⟩) hg d5)

theorem msg_i : (Tryz.prog.info? 24).map (·.size) = some 6 := by kernel_rfl
theorem sig_iM : (Tryz.prog.info? 42).map (·.size) = some 9 := by kernel_rfl
def enS (nm : ByteArray) (st ky : Int) : Sig := ⟨nm, st, 8, false, false, 1, 1, 0, ky⟩
def enL : List Sig := [enS ⟨#[119, 104, 105, 99, 104]⟩ 0 (-1), enS ⟨#[104, 101, 97, 116]⟩ 8 0, enS ⟨#[108, 111, 97, 100]⟩ 8 1]
def enM : Msg := ⟨100, false, ⟨#[101, 110, 103, 105, 110, 101]⟩, 2, 0, enL⟩
theorem enter_en : ∀ args w, (callFunc 87 args).run Tryz.prog w = .ok (.enter 87 args) w := enters_of Tryz.func87 (by kernel_rfl) rfl
set_option maxHeartbeats 4000000 in
set_option maxRecDepth 100000 in
theorem en1_any (nm : ByteArray) (st ky : Int) (w : World) :
    Calls Tryz.prog 87 #[.string nm, .int .i64 st, .int .i64 ky] w fun e w' => e = .returned (sgV (enS nm st ky)) ∧ Below w.heap.size w w' := by
  have hrow := heap_alloc_new w (sgC (enS nm st ky))
  have HB := Hid.mk (sg_box w (enS nm st ky))
  unfold sgC enS at hrow HB
  simp only at hrow HB
  have HR := Hid.mk hrow
  clear hrow
  go_enter Tryz.func87, Tryz.ntmps87
  go_wp2_with fail
  refine bodyPost_ret (results_cell_row rfl _ _ w.heap.size _ _ _ _ rfl HR.out Tryz.underlying42 rfl sig_iM) rfl ?_
  exact ⟨rfl, HB.out⟩
def enC : Obj := .cells #[.string ⟨#[119, 104, 105, 99, 104]⟩, .int .i64 0, .int .i64 8, .bool false, .bool false, .int .i64 1, .int .i64 1, .int .i64 0, .int .i64 (-1), .string ⟨#[104, 101, 97, 116]⟩, .int .i64 8, .int .i64 8, .bool false, .bool false, .int .i64 1, .int .i64 1, .int .i64 0, .int .i64 0, .string ⟨#[108, 111, 97, 100]⟩, .int .i64 8, .int .i64 8, .bool false, .bool false, .int .i64 1, .int .i64 1, .int .i64 0, .int .i64 1] 42
theorem en_sigs (w : World) : IsSigs (w.alloc enC) (some ⟨w.heap.size, 0, none⟩) 3 3 enL := by
  refine ⟨rfl, Nat.le_refl _, by decide, (fun h => by cases h), fun x hx i hi k hk => ?_⟩
  cases hx
  have ea : ∀ j, (Addr.add ⟨w.heap.size, 0, none⟩ j) = ⟨w.heap.size, j, none⟩ := by intro j; simp [Addr.add]; exact fun h => h.symm
  rw [ea, cell_of_row _ _ (i * 9 + k) _ _ _ (heap_alloc_new w enC)]
  have h3 : i < 3 := hi
  match i, h3 with
  | 0, _ => (match k, hk with | 0, _ => rfl | 1, _ => rfl | 2, _ => rfl | 3, _ => rfl | 4, _ => rfl | 5, _ => rfl | 6, _ => rfl | 7, _ => rfl | 8, _ => rfl)
  | 1, _ => (match k, hk with | 0, _ => rfl | 1, _ => rfl | 2, _ => rfl | 3, _ => rfl | 4, _ => rfl | 5, _ => rfl | 6, _ => rfl | 7, _ => rfl | 8, _ => rfl)
  | 2, _ => (match k, hk with | 0, _ => rfl | 1, _ => rfl | 2, _ => rfl | 3, _ => rfl | 4, _ => rfl | 5, _ => rfl | 6, _ => rfl | 7, _ => rfl | 8, _ => rfl)
theorem en_wf : ∀ s ∈ enL, wfS s := by
  intro s hs
  unfold enL enS at hs
  simp only [List.mem_cons, List.not_mem_nil, or_false] at hs
  rcases hs with rfl | rfl | rfl <;> exact ⟨⟨by decide, by decide⟩, by decide⟩
def enV (g : Nat) : MsV := ⟨enM, some ⟨g, 0, none⟩, 3, 3⟩
set_option maxHeartbeats 4000000 in
set_option maxRecDepth 100000 in
theorem engine_any (w : World) :
    Calls Tryz.prog 36 #[] w fun e w' => ∃ g, e = .returned (msV (enV g)) ∧ MsIn w' (enV g) ∧ Below w.heap.size w w' := by
  have HB0 := Hid.mk (awB1 w (.cells #[.int .i64 0, .bool false, .string ⟨#[]⟩, .int .i64 0, .int .i64 0, .slice none 0 0] 24))
  have HS0 : Hid (SixM (w.alloc (.cells #[.int .i64 0, .bool false, .string ⟨#[]⟩, .int .i64 0, .int .i64 0, .slice none 0 0] 24)) w.heap.size (.int .i64 0) (.bool false) (.string ⟨#[]⟩) (.int .i64 0) (.int .i64 0) (.slice none 0 0)) := Hid.mk (heap_alloc_new w _)
  have HE := Hid.mk (fun nm st ky W => en1_any nm st ky W)
  unfold sgV enS at HE
  simp only at HE
  have hent := enter_en
  go_enter Tryz.func36, Tryz.ntmps36
  go_wp2_with fail
  refine (HE.out _ _ _ _).mono ?_
  rintro e w1 ⟨rfl, hb1⟩
  have HB1 := Hid.mk (bl2 HB0.out hb1)
  have HS1 := Hid.mk (HS0.out.kept hb1)
  clear hb1 HB0 HS0
  go_wp2_with fail
  refine (HE.out _ _ _ _).mono ?_
  rintro e w2 ⟨rfl, hb2⟩
  have HB2 := Hid.mk (bl2 HB1.out hb2)
  have HS2 := Hid.mk (HS1.out.kept hb2)
  clear hb2 HB1 HS1
  go_wp2_with fail
  refine (HE.out _ _ _ _).mono ?_
  rintro e w3 ⟨rfl, hb3⟩
  have HB3 := Hid.mk (bl2 HB2.out hb3)
  have HS3 := Hid.mk (HS2.out.kept hb3)
  have HA3 := Hid.mk (awB1 w3 enC)
  have HROW := Hid.mk (en_sigs w3)
  have HS4 := Hid.mk (HS3.out.kept HA3.out)
  have HB4 := Hid.mk (bl2 HB3.out HA3.out)
  unfold enC at HA3 HROW HS4 HB4
  obtain ⟨⟨z0, z1, z2, z3, z4, z5⟩, y0, y1, y2, y3, y4, y5⟩ := HS4.out.cells
  obtain ⟨⟨p1, q1⟩, ⟨p2, q2⟩, ⟨p3, q3⟩, ⟨p4, q4⟩, ⟨p5, q5⟩, hSX⟩ := HS4.out.store (.int .i64 100) (.bool false) (.string ⟨#[101, 110, 103, 105, 110, 101]⟩) (.int .i64 2) (.int .i64 0) (.slice (some ⟨w3.heap.size, 0, none⟩) 3 3)
  have HSX := Hid.mk hSX
  have HLT : Hid (w.heap.size < w3.heap.size) := Hid.mk HS3.out.lt
  clear hb3 HB2 HS2 hSX
  go_wp2_with fail
  refine bodyPost_ret (results_cell_row rfl _ _ w.heap.size _ _ _ _ rfl HSX.out Tryz.underlying24 rfl msg_i) rfl ?_
  refine ⟨w3.heap.size, rfl, ⟨(show (⟨#[101, 110, 103, 105, 110, 101]⟩ : ByteArray).size ≤ 9223372036854775807 by decide), ?_, en_wf⟩, sixm_B HB4.out (Nat.le_refl _) _ _ _ _ _ _⟩
  have h5 := HROW.out
  refine ⟨h5.len, h5.le, h5.max, h5.none, fun x hx i hi k hk => ?_⟩
  have h6 := h5.cell x hx i hi k hk
  cases hx
  have hne : (Addr.add ⟨w3.heap.size, 0, none⟩ (i * 9 + k)).block ≠ w.heap.size := by
    have : (Addr.add ⟨w3.heap.size, 0, none⟩ (i * 9 + k)).block = w3.heap.size := by unfold Addr.add; split <;> rfl
    rw [this]
    have := HLT.out
    omega
  refine Eq.trans ?_ h6
  unfold World.cell?
  rw [Below.heap_setCell _ _ _ _ hne, Below.heap_setCell _ _ _ _ hne, Below.heap_setCell _ _ _ _ hne, Below.heap_setCell _ _ _ _ hne, Below.heap_setCell _ _ _ _ hne, Below.heap_setCell _ _ _ _ hne]
def enR : List Rd := [⟨⟨#[119, 104, 105, 99, 104]⟩, 1, 1⟩, ⟨⟨#[108, 111, 97, 100]⟩, 7, 1⟩]
theorem en_read : readE enM 100 false false false 0 2 = 0 := by kernel_rfl
theorem en_reads : readsD enM [1, 7] = enR := by kernel_rfl
theorem en_chk : chkM enM = 0 := by kernel_rfl
theorem en_write : writeE enM enR = 0 := by kernel_rfl
theorem en_data : (fillE (putW enR) enM).2 = [1, 7] := by kernel_rfl
def b2C : Obj := .cells #[.int .u8 1, .int .u8 7] 5
theorem b2_at (w : World) : IsBytes (w.alloc b2C) (some ⟨w.heap.size, 0, none⟩) 2 2 [1, 7] := by
  refine ⟨rfl, Nat.le_refl _, by unfold maxLen; omega, (fun h => by cases h), fun a ha i hi => ?_⟩
  cases ha
  rw [Addr.add_lit, Nat.zero_add, cell_of_row _ _ i _ _ _ (heap_alloc_new w b2C)]
  match i, hi with
  | 0, _ => rfl
  | 1, _ => rfl
def r2C : Obj := .cells #[.string ⟨#[119, 104, 105, 99, 104]⟩, .int .i64 1, .int .i64 1, .string ⟨#[108, 111, 97, 100]⟩, .int .i64 7, .int .i64 1] 44
theorem r2_at (w : World) : IsRds (w.alloc r2C) (some ⟨w.heap.size, 0, none⟩) 2 2 enR := by
  refine ⟨rfl, Nat.le_refl _, by decide, (fun h => by cases h), fun x hx i hi k hk => ?_⟩
  cases hx
  have ea : ∀ j, (Addr.add ⟨w.heap.size, 0, none⟩ j) = ⟨w.heap.size, j, none⟩ := by intro j; simp [Addr.add]; exact fun h => h.symm
  rw [ea, cell_of_row _ _ (i * 3 + k) _ _ _ (heap_alloc_new w r2C)]
  have h3 : i < 2 := hi
  match i, h3 with
  | 0, _ => (match k, hk with | 0, _ => rfl | 1, _ => rfl | 2, _ => rfl)
  | 1, _ => (match k, hk with | 0, _ => rfl | 1, _ => rfl | 2, _ => rfl)
theorem hasBM {w : World} {a : Option Addr} {n c : Nat} {l : List UInt8} (h : IsBytes w a n c l) : HasBytes w a n l := ⟨h.2.2.2.1, h.2.2.2.2⟩
theorem f6_new (w : World) (a : Option Addr) (n c : Nat) : (w.alloc (.cells #[.int .i64 100, .bool false, .bool false, .bool false, .int .i64 0, .slice a n c] 28)).cell? ⟨w.heap.size, 5, none⟩ = some (.slice a n c) := cell_of_row _ _ 5 _ _ _ (heap_alloc_new w _)
set_option maxHeartbeats 8000000 in
set_option maxRecDepth 100000 in
theorem meant_any (w : World) (hS : SizesAt w) :
    Calls Tryz.prog 9 #[] w fun e w' => e = .returned (.bool true) ∧ Below w.heap.size w w' := by
  have HE := Hid.mk (fun W => engine_any W)
  have hRd := fun g a c W (hM : MsIn W (enV g)) (hS : SizesAt W) (hD : IsBytes W a 2 c [1, 7]) => mread_ok (enV g) 100 false false false 0 a 2 c [1, 7] W hM hS hD en_read
  have e1 : ∀ g, readsD (enV g).m [1, 7] = enR := fun _ => en_reads
  simp only [e1] at hRd
  have HRD := Hid.mk hRd
  have hWr := fun g a c W (hM : MsIn W (enV g)) (hS : SizesAt W) (hF : IsRds W a 2 c enR) => mwrite_ok (enV g) a 2 c enR 2 W hM hS hF (by intro r hr; unfold enR at hr; simp only [List.mem_cons, List.not_mem_nil, or_false] at hr; rcases hr with rfl | rfl <;> decide) en_chk rfl
  have e2 : ∀ g, writeE (enV g).m enR = 0 := fun _ => en_write
  have e3 : ∀ g, (fillE (putW enR) (enV g).m).2 = [1, 7] := fun _ => en_data
  simp only [e2, e3] at hWr
  have HWR := Hid.mk hWr
  have HSZ := Hid.mk hS
  clear hRd hWr e1 e2 e3 hS
  unfold msV enV enM frameV at HRD
  unfold msV enV enM at HE HWR
  simp only at HRD HE HWR
  go_enter Tryz.func9, Tryz.ntmps9
  go_wp2_with fail
  refine (HE.out _).mono ?_
  rintro e w1 ⟨g, rfl, hM1, hb1⟩
  have HB1 := Hid.mk hb1
  have HA1 := Hid.mk (awB1 w1 b2C)
  have HD1 := Hid.mk (b2_at w1)
  have HRR := Hid.mk (HRD.out g _ _ _ (hM1.kept HA1.out) (HSZ.out.kept (bl2 hb1 HA1.out)) HD1.out)
  have HB2 := Hid.mk (bl2 hb1 HA1.out)
  unfold b2C at HRR HB2
  clear hb1 hM1 HRD HD1 HA1
  go_wp2_with fail
  refine HRR.out.mono ?_
  rintro e w2 ⟨u, rfl, hown, hb2⟩
  obtain ⟨ua, uc, rfl, hR2⟩ := rds_own hown
  have HB3 := Hid.mk (bl2 HB2.out hb2)
  have HR3 := Hid.mk (show IsRds w2 ua 2 uc enR from hR2)
  clear hown hb2 hR2 HB2 HRR
  go_wp2_with fail
  refine (HE.out _).mono ?_
  rintro e w3 ⟨g3, rfl, hM3, hb3⟩
  have HB4 := Hid.mk (bl2 HB3.out hb3)
  have HR4 := Hid.mk (HR3.out.kept hb3)
  have HWW := Hid.mk (HWR.out g3 ua uc w3 hM3 (HSZ.out.kept HB4.out) HR4.out)
  clear hb3 hM3 HWR HR3 HB3
  go_wp2_with fail
  refine HWW.out.mono ?_
  rintro e w4 ⟨hb4, hcase⟩
  rcases hcase with ⟨hne, _⟩ | ⟨_, fa, fc, rfl, hF4⟩
  · exact absurd rfl hne
  have HB5 := Hid.mk (bl2 HB4.out hb4)
  have HR5 := Hid.mk (HR4.out.kept hb4)
  have HA5 := Hid.mk (awB1 w4 (.cells #[.int .i64 100, .bool false, .bool false, .bool false, .int .i64 0, .slice fa 2 fc] 28))
  have HF5 := Hid.mk (f6_new w4 fa 2 fc)
  have HA6 := Hid.mk (awB1 (w4.alloc (.cells #[.int .i64 100, .bool false, .bool false, .bool false, .int .i64 0, .slice fa 2 fc] 28)) r2C)
  have HQ := Hid.mk (equalRd_true _ ua (some ⟨w4.heap.size + 1, 0, none⟩) 2 uc 2 enR (HR5.out.kept (bl2 HA5.out HA6.out)) (by
    have := r2_at (w4.alloc (.cells #[.int .i64 100, .bool false, .bool false, .bool false, .int .i64 0, .slice fa 2 fc] 28))
    rw [show (w4.alloc (.cells #[.int .i64 100, .bool false, .bool false, .bool false, .int .i64 0, .slice fa 2 fc] 28)).heap.size = w4.heap.size + 1 by simp] at this
    exact this))
  have HD6 := Hid.mk (isBytes_below hF4 (bl2 HA5.out HA6.out))
  have HF6 := Hid.mk (cell_kept HA6.out HF5.out)
  have HB6 := Hid.mk (bl2 HB5.out (bl2 HA5.out HA6.out))
  unfold r2C at HQ HD6 HF6 HB6
  unfold frameV
  clear hb4 hF4 HWW HR4 HB4
  go_wp2_with fail
  refine HQ.out.mono ?_
  rintro e w5 ⟨rfl, hb5⟩
  have HB7 := Hid.mk (bl2 HB6.out hb5)
  have hf5 := cell_kept hb5 HF6.out
  have HA7 := Hid.mk (awB1 w5 b2C)
  have HQ2 := Hid.mk (equalB_true (w5.alloc b2C) fa (some ⟨w5.heap.size, 0, none⟩) 2 fc 2 [1, 7] (by unfold maxLen; omega) (hasBM (isBytes_below (isBytes_below HD6.out hb5) HA7.out)) (hasBM (b2_at w5)))
  have HB8 := Hid.mk (bl2 HB7.out HA7.out)
  unfold b2C at HQ2 HB8
  clear hb5 HQ
  go_wp2_with fail
  refine HQ2.out.mono ?_
  rintro e w6 ⟨rfl, hb6⟩
  have HB9 := Hid.mk (bl2 HB8.out hb6)
  clear hb6
  go_wp2_with fail
  go_ret
  exact ⟨rfl, HB9.out⟩
end Bw
end Go.Proofs.YtlnkhlifkooohaaGreatDoor
