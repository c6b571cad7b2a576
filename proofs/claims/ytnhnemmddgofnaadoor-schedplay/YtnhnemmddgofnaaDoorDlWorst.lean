/- What delay.Worst answers. -/
import Derived.Test.YtnhnemmddgofnaaDoorDlWoS
import Derived.Test.YtnhnemmddgofnaaDoorDlCheck
namespace Go.Proofs.YtnhnemmddgofnaaDoor
open Go.ChangeShapes Go.WideShapes Go.ChangeAt Go.RowKit Go.Sort
namespace Bw
set_option linter.unusedVariables false
set_option maxHeartbeats 1000000 in
theorem worst_bad (a : Option Addr) (n c : Nat) (l : List Tk) (w : World) (hT : IsTks w a n c l) (h : chkT l ≠ 0) :
    Calls Tryd.prog 15 #[.slice a n c] w fun e w' => e = .returned (.tuple #[.slice none 0 0, .int .i64 (chkT l)]) ∧ Below w.heap.size w w' := by
  have HC := Hid.mk (dcheck_any a n c l w hT)
  have hE : (chkT l != 0) = true := by simpa using h
  generalize chkT l = E at *
  clear hT h
  go_enter Tryd.func15, Tryd.ntmps15
  go_wp2_with fail
  refine HC.out.mono ?_
  rintro e w1 ⟨rfl, hb1⟩
  have HB1 := Hid.mk hb1
  clear hb1 HC
  go_wp2_with fail
  go_ret2
  exact ⟨rfl, HB1.out⟩
theorem info_partsD {t : TypeId} {z : Value} {s b : Nat} (h : (Tryd.prog.info? t).map (fun i => (i.zero, i.size, i.bytes)) = some (some z, s, b)) : ∃ i, Tryd.prog.info? t = some i ∧ i.zero = some z ∧ i.size = s ∧ i.bytes = b := by
  cases hi : Tryd.prog.info? t with
  | none => rw [hi] at h; cases h
  | some i => rw [hi] at h; simp at h; exact ⟨i, rfl, h.1, h.2.1, h.2.2⟩
theorem two_newD (w : World) (x y : Value) (T : TypeId) : ∀ j u, ([x, y] : List Value)[j]? = some u → (w.alloc (.cells #[x, y] T)).cell? ((⟨w.heap.size, 0, none⟩ : Addr).add j) = some u := by
  intro j u hu
  match j, hu with
  | 0, hu => cases hu; exact cell_of_row _ _ 0 _ _ _ (heap_alloc_new w _)
  | 1, hu => cases hu; exact cell_of_row _ _ 1 _ _ _ (heap_alloc_new w _)
theorem one_newD (w : World) (x : Value) (T : TypeId) : ∀ j u, ([x] : List Value)[j]? = some u → (w.alloc (.cells #[x] T)).cell? ((⟨w.heap.size, 0, none⟩ : Addr).add j) = some u := by
  intro j u hu
  match j, hu with
  | 0, hu => cases hu; exact cell_of_row _ _ 0 _ _ _ (heap_alloc_new w _)
theorem info_task : (Tryd.prog.info? 31).map (fun i => (i.zero, i.size, i.bytes)) = some (some (.agg #[.int .i64 0, .int .i64 0, .int .i64 0, .int .i64 0, .int .i64 0]), 5, 40) := by kernel_rfl
theorem TkAt.grown {w w' : World} {k : Nat} {x : Tk} {row : Option Nat} (h : TkAt w k x) (hg : w.grownBy w' row) (hk : k < w.heap.size) (hn : row ≠ some k) : TkAt w' k x := by
  have e1 : ∀ j, w'.cell? ⟨k, j, none⟩ = w.cell? ⟨k, j, none⟩ := fun j => cell_heapD (grown_atD hg hk hn)
  exact ⟨by rw [e1]; exact h.c0, by rw [e1]; exact h.c1, by rw [e1]; exact h.c2, by rw [e1]; exact h.c3, by rw [e1]; exact h.c4⟩
theorem ob_ne {w : World} {base : Nat} {e : TypeId} {size : Nat} {v : Value} {n : Nat} {xs : List Value} (h : w.ownsRow base e size v n xs) {p : Nat} (hp : w.heap.size ≤ p) : v.ownBlock ≠ some p := fun hk => absurd (own_geD h hk).2 (by omega)
theorem below_grown {base : Nat} {w a b : World} {v : Value} {e : TypeId} {size n : Nat} {xs : List Value} (h : Below base w a) (hv : a.ownsRow base e size v n xs) (hg : a.grownBy b v.ownBlock) (hs : base ≤ w.heap.size) : Below base w b := Below.grown h hg (Nat.le_trans hs h.size) (fun q hq => (own_geD hv hq).1)
theorem slice_tks (x : Addr) (n c k : Nat) (hk : k + 1 ≤ n) (hn : n ≤ c) : ∃ y N2 C2, (∀ W : World, (Instr.slice 22 (.slice (some x) n c) (some (.int .i64 ((k : Int) + 1))) none none).run Tryd.prog W = .ok (.slice (some y) N2 C2) W) ∧ ∀ (w : World) (l : List Tk), IsTks w (some x) n c l → IsTks w (some y) N2 C2 (l.drop (k + 1)) := by
  have hu : Tryd.prog.underlying 22 = some (.slice (Tryd.prog.elem 22)) := by kernel_rfl
  have hs : ∀ W : World, (sizeOf (Tryd.prog.elem 22)).run Tryd.prog W = .ok 5 W := fun W => by
    obtain ⟨i, hi, -⟩ := info_partsD info_task
    rw [show Tryd.prog.elem 22 = 31 by kernel_rfl, run_sizeOf _ hi, show Tryd.prog.cellsOf 31 = 5 by kernel_rfl]
  have e := fun W : World => run_slice_l (w := W) 22 (some x) n c hu .i64 ((k : Int) + 1) (by omega) (by omega)
  simp only [hs] at e
  have et : ((k : Int) + 1).toNat = k + 1 := by omega
  simp only [Result.andThen, sliced, et, Option.map_some] at e
  by_cases hc : c = k + 1
  · simp only [if_pos hc] at e
    refine ⟨x, _, _, e, fun w l h => ?_⟩
    have hl := h.len
    exact ⟨by rw [List.length_drop, hl], by omega, by have := h.max; omega, fun e => (by cases e), fun y hy i hi => absurd hi (by omega)⟩
  · simp only [if_neg hc] at e
    exact ⟨_, _, _, e, fun w l h => tks_drop h hk⟩
theorem stopAt_is {l : List Tk} {k : Nat} {r : Tk} (h : r = l.getD k noT) : stopAt l k = waitN (mostT (l.drop (k + 1))) r (l.take k) := by unfold stopAt; rw [h]
set_option maxHeartbeats 8000000 in
set_option maxRecDepth 100000 in
theorem worst_ok (a : Option Addr) (n c : Nat) (l : List Tk) (w : World) (hT : IsTks w a n c l) (h : chkT l = 0) (hS : SizesAt w) (hR : RulesAt w) :
    Calls Tryd.prog 15 #[.slice a n c] w fun e w' => ∃ v, e = .returned (.tuple #[v, .int .i64 0]) ∧ w'.ownsRow w.heap.size 49 2 v n (stC l n) ∧ Below w.heap.size w w' := by
  have HC := Hid.mk (dcheck_any a n c l w hT)
  rw [h] at HC
  obtain ⟨h20, hok⟩ := chkT_ok h
  have hl := hT.len
  have hn20 : n ≤ 20 := by omega
  have HOK := Hid.mk hok
  have HT := Hid.mk hT
  have HS := Hid.mk hS
  have HR := Hid.mk hR
  have HLN := Hid.mk hl
  have hc63 := mlenD hT.max
  have hnc := hT.le
  obtain ⟨i0, hi0, hz0, hz1, hz2⟩ := info_partsD info_stop
  obtain ⟨i1, hi1, hy0, hy1, hy2⟩ := info_partsD info_work
  clear hT h h20 hok hS hR hl
  go_enter Tryd.func15, Tryd.ntmps15
  go_wp2_with fail
  refine HC.out.mono ?_
  rintro e w1 ⟨rfl, hb1⟩
  have HB0 := Hid.mk hb1
  clear hb1 HC
  go_wp2_with fail
  go_loopw [5, 6, 17] (fun vO vW i wr => ∃ (k : Nat) (vs : List Value), k ≤ n ∧ i = .int .i64 k ∧ Hid (WoS wr w.heap.size l k k vO vW vs) ∧ Hid (Below w.heap.size w wr)) (fun _ _ i _ => n - (intOf i).toNat)
  case atStart => exact ⟨0, [], Nat.zero_le _, rfl, Hid.mk ⟨by simpa [stC] using World.ownsRow_nil _ _ _ _, World.ownsRow_nil _ _ _ _, fun k hk => (by cases hk), rfl, fun i hi => absurd hi (Nat.not_lt_zero _)⟩, HB0⟩
  case round =>
    clear HB0
    obtain ⟨k, vs, hk, rfl, HW, HB⟩ := hrel
    obtain ⟨aO, cO, hvO⟩ := own_sliceD HW.out.out
    obtain ⟨aW, cW, hvW⟩ := own_sliceD HW.out.wks
    subst hvO hvW
    by_cases hlt : k < n
    · have hlt' : (k : Int) < (n : Int) := by omega
      have hkn1 : (k : Int) + 1 ≤ (n : Int) := by omega
      have hkc1 : (k : Int) + 1 ≤ (c : Int) := by omega
      obtain ⟨x, rfl⟩ := HT.out.some hlt
      obtain ⟨c0, c1, c2, c3, c4⟩ := (HT.out.kept HB.out).cell x rfl k hlt
      obtain ⟨r, hr⟩ : ∃ r, r = l.getD k noT := ⟨_, rfl⟩
      rw [← hr] at c0 c1 c2 c3 c4
      have hrok := HOK.out r (by rw [hr]; exact getD_memT (by rw [HLN.out]; exact hlt))
      have HRK := Hid.mk hrok
      have HST := Hid.mk (stopAt_is hr)
      have HRE := Hid.mk hr
      obtain ⟨V, hV⟩ : ∃ V : Int, V = stopAt l k := ⟨_, rfl⟩
      have HVE := Hid.mk hV
      have hV0 : -1 ≤ V := by rw [hV, HST.out]; exact waitN_ge _ _ _
      have HFT : Hid (fitB l k = (decide (0 ≤ V) && decide (V ≤ r.la))) := Hid.mk (by unfold fitB; rw [hV, hr])
      have hokd : ∀ y ∈ l.drop (k + 1), okT y = true := fun y hy => HOK.out y (List.mem_of_mem_drop hy)
      have hokt : ∀ y ∈ l.take k, okT y = true := fun y hy => HOK.out y (List.mem_of_mem_take hy)
      have HOD := Hid.mk hokd
      have HOT := Hid.mk hokt
      obtain ⟨M, hM⟩ : ∃ M : Nat, M = mostT (l.drop (k + 1)) := ⟨_, rfl⟩
      have HME := Hid.mk hM
      have hM1 : M ≤ 135 := by rw [hM]; exact mostT_le hokd
      have hb1 := awD wr (tkC r)
      have HB1 := Hid.mk (bl2 HB.out hb1)
      have HX1 := Hid.mk (TkAt.new wr r)
      have HW1 := Hid.mk (HW.out.kept hb1)
      have HSZ1 := Hid.mk (show wr.heap.size < (wr.alloc (tkC r)).heap.size by rw [allocS]; omega)
      have HNO : Hid ((Value.slice aO k cO).ownBlock ≠ some wr.heap.size) := Hid.mk (ob_ne HW.out.out (Nat.le_refl _))
      clear hr hrok hV hokd hokt hM hb1 HB HW
      unfold tkC at HB1 HX1 HW1 HSZ1
      go_wp2_with fail
      generalize wr.alloc (.cells #[.int .i64 r.id, .int .i64 r.by_, .int .i64 r.ev, .int .i64 r.la, .int .i64 r.ji] 31) = W1 at *
      go_cut [9] (fun s9 wx => s9 = .int .i64 V ∧ Hid (Below W1.heap.size W1 wx))
      case first =>
        have hS0 := HX1.out.all
        have HD1 := Hid.mk (drewBD W1)
        have HMO : Hid (∀ a2 n2 c2, IsTks W1 a2 n2 c2 (l.drop (k + 1)) → Calls Tryd.prog 25 #[.slice a2 n2 c2] W1.drew fun e w' => e = .returned (.int .i64 (M : Nat)) ∧ Below W1.drew.heap.size W1.drew w') := Hid.mk (fun a2 n2 c2 hI => by rw [HME.out]; exact most_any' a2 n2 c2 _ W1.drew (hI.kept HD1.out) HOD.out ((HS.out.kept HB1.out).kept HD1.out) ((HR.out.kept HB1.out).kept HD1.out))
        have HSM : Hid (∀ W, Below W1.heap.size W1 W → Calls Tryd.prog 26 #[.slice aW k cW] W fun e w' => ∃ g, e = .returned (smV g) ∧ SumAt w' g aW k cW (l.take k) ∧ Below W.heap.size W w') := Hid.mk (fun W hW => sum_any aW k cW _ W ((HW1.out.row (by rw [HLN.out]; exact hk)).kept hW))
        have HLW : Hid (∀ W g, Below W1.heap.size W1 W → SumAt W g aW k cW (l.take k) → Calls Tryd.prog 24 #[r.val, .int .i64 (M : Nat), smV g] W fun e w' => e = .returned (.int .i64 V) ∧ Below W.heap.size W w') := Hid.mk (fun W g hW hA => by
          have := longestWait_any r M g aW k cW (l.take k) W HRK.out (by omega) HOT.out (by rw [List.length_take, HLN.out]; omega) hA ((HS.out.kept HB1.out).kept hW) ((HR.out.kept HB1.out).kept hW)
          rw [HVE.out, HST.out, ← HME.out]
          exact this)
        unfold Tk.val at HLW
        obtain ⟨y, N2, C2, hsl, hdr⟩ := slice_tks x n c k hlt hnc
        have HDR := Hid.mk (hdr W1 l (HT.out.kept HB1.out))
        have hwk : IntKind.i64.wrap ((k : Int) + 1) = (k : Int) + 1 := by rw [IntKind.wrap_i64]; omega
        clear hdr
        go_region_held3 (fun w' => w'.cell? ⟨wr.heap.size, 0, none⟩ = some (.int .i64 r.id) ∧ w'.cell? ⟨wr.heap.size, 1, none⟩ = some (.int .i64 r.by_) ∧ w'.cell? ⟨wr.heap.size, 2, none⟩ = some (.int .i64 r.ev) ∧ w'.cell? ⟨wr.heap.size, 3, none⟩ = some (.int .i64 r.la) ∧ w'.cell? ⟨wr.heap.size, 4, none⟩ = some (.int .i64 r.ji)) (with_reducible first | exact hS0 | exact (HX1.out.kept HD1.out).all | exact (HX1.out.kept HB2.out).all | exact (HX1.out.kept HB3.out).all | exact (HX1.out.kept HB4.out).all) (first
          | (go_at_call 25; with_reducible refine (HMO.out _ _ _ HDR.out).mono ?_; rintro e w2 ⟨rfl, hb2⟩; have HB2 := Hid.mk (bl2 HD1.out hb2); clear hb2)
          | (go_at_call 26; with_reducible refine (HSM.out _ HB2.out).mono ?_; rintro e w3 ⟨g, rfl, hA3, hb3⟩; have HB3 := Hid.mk (bl2 HB2.out hb3); have HA3 := Hid.mk hA3; clear hb3 hA3; have HL4 := Hid.mk (HLW.out _ _ HB3.out HA3.out); unfold smV at HL4; unfold smV)
          | (go_at_call 24; with_reducible refine HL4.out.mono ?_; rintro e w4 ⟨rfl, hb4⟩; have HB4 := Hid.mk (bl2 HB3.out hb4); clear hb4))
        go_wp2_with fail
        go_meet
        exact ⟨rfl, HB4⟩
      case rest =>
        obtain ⟨rfl, HBc⟩ := hcut
        have HB2 := Hid.mk (bl2 HB1.out HBc.out)
        have HX2 := Hid.mk (HX1.out.kept HBc.out)
        have HW2 := Hid.mk (HW1.out.kept HBc.out)
        have HSZ2 : Hid (wr.heap.size < wc.heap.size) := Hid.mk (Nat.lt_of_lt_of_le HSZ1.out HBc.out.size)
        obtain ⟨x0, x1, x2, x3, x4⟩ := HX2.out.all
        clear HB1 HX1 HW1 HBc HOD HOT HSZ1
        by_cases h0 : 0 ≤ V
        · have h0c : True := trivial
          have hd0 : decide (0 ≤ V) = true := decide_eq_true h0
          have HFV : Hid ([.int .i64 V, .bool (decide (V ≤ r.la))] = stE1 l k) := Hid.mk (by unfold stE1; rw [← HVE.out, HFT.out, hd0, Bool.true_and])
          go_wp2_with (at_builtin; refine wpList_append_two rfl (.tmp 31) (.tmp 42) 45 rfl w.heap.size 49 i0 (.agg #[.int .i64 0, .bool false]) 2 16 Tryd.underlying45 hi0 hz0 hz1 hz2 rfl (by decide) _ k _ rfl (ownsRow_below HW2.out.out (awD wc _)) ⟨wc.heap.size, 0, none⟩ 1 1 [.int .i64 V, .bool (decide (V ≤ r.la))] rfl rfl (two_newD wc _ _ _) (by intro u hu; simp at hu; rcases hu with rfl | rfl <;> rfl) (by decide) (by unfold maxLen; omega) (by omega) (by have := HB2.out.size; rw [allocS]; omega) ?_; intro v1 w3 hown1 hgrow1 hblk1; have HW3 := Hid.mk (WoS.app1 (HW2.out.kept (awD wc _)) (by rw [← HFV.out]; exact hown1) hgrow1 hblk1); have HX3 := Hid.mk (TkAt.grown (HX2.out.kept (awD wc _)) hgrow1 (by rw [allocS]; have := HSZ2.out; omega) HNO.out); have HB3 := Hid.mk (below_grown (bl2 HB2.out (awD wc _)) (ownsRow_below HW2.out.out (awD wc _)) hgrow1 (Nat.le_refl _)); obtain ⟨x0, x1, x2, x3, x4⟩ := HX3.out.all; clear hown1 hgrow1 hblk1)
          have HWK := Hid.mk (workOf_any r w3 HRK.out (HS.out.kept HB3.out) (HR.out.kept HB3.out))
          unfold Tk.val at HWK
          refine HWK.out.mono ?_
          rintro e w4 ⟨p, q, rfl, hon, hp1, hq1, hp2, hq2, hb4⟩
          have HB4 := Hid.mk (bl2 HB3.out hb4)
          have HW4 := Hid.mk (HW3.out.kept hb4)
          have HIN : Hid (WkIn w4 v1 (.slice aW k cW) (wkV p q) (l.getD k noT) p q) := Hid.mk ⟨rfl, by rw [← HRE.out]; exact hon, hp2, hq2, ob_ne HW3.out.out hp1, ob_ne HW3.out.out hq1, ob_ne HW3.out.wks hp1, ob_ne HW3.out.wks hq1⟩
          clear hon hp1 hq1 hp2 hq2 hb4 HWK x0 x1 x2 x3 x4 HX3 HW3 HX2 HW2
          unfold wkV
          go_wp2_with (at_builtin; refine wpList_append_two rfl (.tmp 44) (.tmp 47) 63 rfl w.heap.size 67 i1 .nilFunc 1 8 Tryd.underlying63 hi1 hy0 hy1 hy2 rfl (by decide) _ k vs rfl (ownsRow_below HW4.out.wks (awD w4 _)) ⟨w4.heap.size, 0, none⟩ 1 1 [wkV p q] rfl rfl (one_newD w4 _ _) (by intro u hu; simp at hu; subst hu; rfl) (by decide) (by unfold maxLen; omega) (by omega) (by have := HB4.out.size; rw [allocS]; omega) ?_; intro v2 w5 hown2 hgrow2 hblk2; have HW5 := Hid.mk (WoS.app2 (HW4.out.kept (awD w4 _)) (HIN.out.kept (awD w4 _)) hown2 hgrow2 hblk2); have HB5 := Hid.mk (below_grown (bl2 HB4.out (awD w4 _)) (ownsRow_below HW4.out.wks (awD w4 _)) hgrow2 (Nat.le_refl _)); clear hown2 hgrow2 hblk2)
          go_roundw
          case rel => exact ⟨k + 1, vs ++ [wkV p q], by omega, by go_num, HW5, HB5⟩
          case measure => simp [intOf]; omega
        · have h0c : True := trivial
          have hd0 : decide (0 ≤ V) = false := decide_eq_false h0
          have HFV : Hid ([.int .i64 V, .bool false] = stE1 l k) := Hid.mk (by unfold stE1; rw [← HVE.out, HFT.out, hd0, Bool.false_and])
          go_wp2_with (at_builtin; refine wpList_append_two rfl (.tmp 31) (.tmp 42) 45 rfl w.heap.size 49 i0 (.agg #[.int .i64 0, .bool false]) 2 16 Tryd.underlying45 hi0 hz0 hz1 hz2 rfl (by decide) _ k _ rfl (ownsRow_below HW2.out.out (awD wc _)) ⟨wc.heap.size, 0, none⟩ 1 1 [.int .i64 V, .bool false] rfl rfl (two_newD wc _ _ _) (by intro u hu; simp at hu; rcases hu with rfl | rfl <;> rfl) (by decide) (by unfold maxLen; omega) (by omega) (by have := HB2.out.size; rw [allocS]; omega) ?_; intro v1 w3 hown1 hgrow1 hblk1; have HW3 := Hid.mk (WoS.app1 (HW2.out.kept (awD wc _)) (by rw [← HFV.out]; exact hown1) hgrow1 hblk1); have HX3 := Hid.mk (TkAt.grown (HX2.out.kept (awD wc _)) hgrow1 (by rw [allocS]; have := HSZ2.out; omega) HNO.out); have HB3 := Hid.mk (below_grown (bl2 HB2.out (awD wc _)) (ownsRow_below HW2.out.out (awD wc _)) hgrow1 (Nat.le_refl _)); obtain ⟨x0, x1, x2, x3, x4⟩ := HX3.out.all; clear hown1 hgrow1 hblk1)
          have HWK := Hid.mk (workOf_any r w3 HRK.out (HS.out.kept HB3.out) (HR.out.kept HB3.out))
          unfold Tk.val at HWK
          refine HWK.out.mono ?_
          rintro e w4 ⟨p, q, rfl, hon, hp1, hq1, hp2, hq2, hb4⟩
          have HB4 := Hid.mk (bl2 HB3.out hb4)
          have HW4 := Hid.mk (HW3.out.kept hb4)
          have HIN : Hid (WkIn w4 v1 (.slice aW k cW) (wkV p q) (l.getD k noT) p q) := Hid.mk ⟨rfl, by rw [← HRE.out]; exact hon, hp2, hq2, ob_ne HW3.out.out hp1, ob_ne HW3.out.out hq1, ob_ne HW3.out.wks hp1, ob_ne HW3.out.wks hq1⟩
          clear hon hp1 hq1 hp2 hq2 hb4 HWK x0 x1 x2 x3 x4 HX3 HW3 HX2 HW2
          unfold wkV
          go_wp2_with (at_builtin; refine wpList_append_two rfl (.tmp 44) (.tmp 47) 63 rfl w.heap.size 67 i1 .nilFunc 1 8 Tryd.underlying63 hi1 hy0 hy1 hy2 rfl (by decide) _ k vs rfl (ownsRow_below HW4.out.wks (awD w4 _)) ⟨w4.heap.size, 0, none⟩ 1 1 [wkV p q] rfl rfl (one_newD w4 _ _) (by intro u hu; simp at hu; subst hu; rfl) (by decide) (by unfold maxLen; omega) (by omega) (by have := HB4.out.size; rw [allocS]; omega) ?_; intro v2 w5 hown2 hgrow2 hblk2; have HW5 := Hid.mk (WoS.app2 (HW4.out.kept (awD w4 _)) (HIN.out.kept (awD w4 _)) hown2 hgrow2 hblk2); have HB5 := Hid.mk (below_grown (bl2 HB4.out (awD w4 _)) (ownsRow_below HW4.out.wks (awD w4 _)) hgrow2 (Nat.le_refl _)); clear hown2 hgrow2 hblk2)
          go_roundw
          case rel => exact ⟨k + 1, vs ++ [wkV p q], by omega, by go_num, HW5, HB5⟩
          case measure => simp [intOf]; omega
    · obtain rfl : k = n := by omega
      go_wp2_with fail
      go_ret2
      exact ⟨_, rfl, HW.out.out, HB.out⟩
end Bw
end Go.Proofs.YtnhnemmddgofnaaDoor
