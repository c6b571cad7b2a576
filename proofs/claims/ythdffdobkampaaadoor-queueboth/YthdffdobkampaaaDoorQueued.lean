/- The closed fact that each law of queues asks for: two frames, put and taken. -/
import Derived.Test.YthdffdobkampaaaDoorQMerge
namespace Go.Proofs.YthdffdobkampaaaDoor
open Go.ChangeShapes Go.WideShapes Go.ChangeAt Go.RowKit
namespace Bw
open Bm Cm
def fq (i : Int) : Fr := ⟨i, false, false, false, 0, []⟩
def vq (i : Int) : FrV := ⟨fq i, none, 0, 0⟩
theorem queued_put : putE [vq 5] (fq 3) = 0 := by decide +kernel
theorem queued_two : (putF [fq 5] (fq 3)).map (·.id) = [3, 5] := by decide +kernel
theorem queued_len : (putF [fq 5] (fq 3)).length = 2 := by decide +kernel
theorem queued_chk : chkQ (putF [fq 5] (fq 3)) = 0 := by decide +kernel
theorem nilBytesQ (w : World) : IsBytes w none 0 0 [] := ⟨rfl, Nat.le_refl _, Nat.zero_le _, fun _ => rfl, fun x hx => by cases hx⟩
theorem one_frame (w : World) (v : FrV) (hv : IsBytes w v.a v.len v.cap v.f.dt) : IsFrames (w.alloc (.cells v.cells.toArray 25)) (some ⟨w.heap.size, 0, none⟩) 1 1 [v] := by
  refine ⟨rfl, Nat.le_refl _, by unfold maxLen; decide, (fun h => by cases h), ?_, ?_⟩
  · intro x hx i hi k hk
    cases hx
    have hi0 : i = 0 := by simp at hi; exact hi
    subst hi0
    have e : (Addr.add ⟨w.heap.size, 0, none⟩ (0 * 6 + k)) = ⟨w.heap.size, 0 + (0 * 6 + k), none⟩ := Addr.add_mid _ _ _
    rw [e, Nat.zero_mul, Nat.zero_add, Nat.zero_add, cell_of_row _ _ k _ _ _ (heap_alloc_new w _), List.getElem?_toArray]
    exact List.getElem?_eq_getElem (show k < v.cells.length from hk)
  · intro i hi
    have hi0 : i = 0 := by simp at hi; exact hi
    subst hi0
    exact isBytes_below hv ((Below.refl _ _).alloc (Nat.le_refl _) _)
set_option maxHeartbeats 1000000 in
set_option maxRecDepth 100000 in
theorem queued_any (w : World) (hS : SizesAt w) :
    Calls Tryd.prog 12 #[] w fun e w' => e = .returned (.bool true) ∧ Below w.heap.size w w' := by
  have hb0 : Below w.heap.size w (w.alloc (.cells (vq 5).cells.toArray 25)) := (Below.refl _ _).alloc (Nat.le_refl _) _
  have h1 := Put_any (some ⟨w.heap.size, 0, none⟩) 1 1 [vq 5] (vq 3) _ (hS.kept hb0) (one_frame w (vq 5) (nilBytesQ w)) (nilBytesQ _)
  have e1 : putE [vq 5] (vq 3).f = 0 := queued_put
  rw [e1] at h1
  have H1 := Hid.mk h1
  have HB0 := Hid.mk hb0
  have HS := Hid.mk hS
  unfold frameV at H1
  clear h1 e1 hb0 hS
  go_enter Tryd.func12, Tryd.ntmps12
  go_wp2_with fail
  refine H1.out.mono ?_
  rintro e w1 ⟨r, l1, rfl, ho, hf, -, hb1⟩
  have hf := hf trivial
  have hb01 := bl2 HB0.out hb1
  obtain ⟨a1, c1, rfl, hF1⟩ := ho.frames
  have hf' : l1.map (·.f) = putF [fq 5] (fq 3) := hf
  have hl1 : l1.length = 2 := by have := congrArg List.length hf'; rw [List.length_map, queued_len] at this; exact this
  rw [hl1] at hF1 ⊢
  have h2 := take_ok a1 2 c1 l1 w1 (HS.out.kept hb01) hF1 (by rw [hf']; exact queued_chk) (by decide)
  have H2 := Hid.mk h2
  have HB1 := Hid.mk hb01
  have hid : l1.map (fun v => v.f.id) = [3, 5] := by
    have := congrArg (List.map (·.id)) hf'
    rw [List.map_map, queued_two] at this
    exact this
  have HID := Hid.mk hid
  clear h2 hb1 hb01 ho hf hf' hF1 H1 hid
  go_wp2_with fail
  refine H2.out.mono ?_
  rintro e w2 ⟨v, x, c, l2, rfl, hfl, hY2, hF2, hb2⟩
  have hids : v.f.id :: l2.map (fun u => u.f.id) = [3, 5] := by
    have := congrArg (List.map (·.id)) hfl
    rw [List.map_map, List.map_cons, List.map_map] at this
    exact this.trans HID.out
  obtain ⟨⟨id, lo, fa, re, sz, dt⟩, va, vl, vc⟩ := v
  have hid3 : id = 3 := by injection hids
  have hid5 : l2.map (fun u => u.f.id) = [5] := by injection hids
  subst hid3
  have hx0 : w2.cell? x = some (.int .i64 5) := by
    have hl2 : l2.length = 1 := hF2.len
    have h3 := hF2.cell x rfl 0 (by omega) 0 (by decide)
    have h4 : (l2[0]'(by omega)).f.id = 5 := by
      have h5 : (l2.map (fun u => u.f.id))[0]? = some 5 := by rw [hid5]; rfl
      rw [List.getElem?_map, List.getElem?_eq_getElem (by omega)] at h5
      exact Option.some.inj h5
    have ex : x.add (0 * 6 + 0) = x := by unfold Addr.add; simp
    rw [ex] at h3
    rw [h3, ← h4]; rfl
  have HB2 := Hid.mk (bl2 HB1.out hb2)
  have hbx := below_box w2 3 lo fa re sz va vl vc
  have hx1 := cell_kept hbx hx0
  have HBX := Hid.mk hbx
  unfold frameC at hx1 HBX
  clear hfl hY2 hF2 hb2 hids hid5 hx0 H2 hbx
  simp only [FrV.cells]
  go_wp2_with fail
  go_ret
  exact ⟨rfl, bl2 HB2.out HBX.out⟩
end Bw
end Go.Proofs.YthdffdobkampaaaDoor
