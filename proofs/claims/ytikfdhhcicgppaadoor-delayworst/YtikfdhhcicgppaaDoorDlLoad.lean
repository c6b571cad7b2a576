/- What delay.Load answers. -/
import Derived.Test.YtikfdhhcicgppaaDoorDlTakes
import Derived.Test.YtikfdhhcicgppaaDoorDlCheck
import Derived.BigQuiet
import Derived.Lib.QuietBelow
namespace Go.Proofs.YtikfdhhcicgppaaDoor
open Go.ChangeShapes Go.WideShapes Go.ChangeAt Go.RowKit Go.Sort
namespace Bw
set_option linter.unusedVariables false
theorem loadT_snoc (l : List Tk) (x : Tk) : loadT (l ++ [x]) = loadT l + upN (1000000 * cN x) (tN x) := by unfold loadT; simp
theorem loadT_le : ∀ {l : List Tk}, (∀ x ∈ l, okT x = true) → loadT l ≤ l.length * 135000000
  | [], _ => Nat.zero_le _
  | x :: l, h => by
    have h1 := loadT_le (l := l) (fun y hy => h y (List.mem_cons_of_mem _ hy))
    obtain ⟨q1, q2, q3, -⟩ := okT_n (h x (List.mem_cons_self ..))
    have h2 := upN_le (n := 1000000 * cN x) q3
    unfold loadT at *
    simp only [List.map_cons, List.sum_cons, List.length_cons]
    omega
set_option maxHeartbeats 1000000 in
theorem load_bad (a : Option Addr) (n c : Nat) (l : List Tk) (w : World) (hT : IsTks w a n c l) (h : chkT l ≠ 0) :
    Calls Tryd.prog 5 #[.slice a n c] w fun e w' => e = .returned (.tuple #[.int .i64 0, .int .i64 (chkT l)]) ∧ Below w.heap.size w w' := by
  have HC := Hid.mk (dcheck_any a n c l w hT)
  have hE : (chkT l != 0) = true := by simpa using h
  generalize chkT l = E at *
  clear hT h
  go_enter Tryd.func5, Tryd.ntmps5
  go_wp2_with fail
  refine HC.out.mono ?_
  rintro e w1 ⟨rfl, hb1⟩
  have HB1 := Hid.mk hb1
  clear hb1 HC
  go_wp2_with fail
  go_ret2
  exact ⟨rfl, HB1.out⟩
set_option maxHeartbeats 4000000 in
set_option maxRecDepth 100000 in
theorem load_ok (a : Option Addr) (n c : Nat) (l : List Tk) (w : World) (hT : IsTks w a n c l) (h : chkT l = 0) (hS : SizesAt w) (hR : RulesAt w) :
    Calls Tryd.prog 5 #[.slice a n c] w fun e w' => e = .returned (.tuple #[.int .i64 (loadT l : Nat), .int .i64 0]) ∧ Below w.heap.size w w' := by
  have HC := Hid.mk (dcheck_any a n c l w hT)
  rw [h] at HC
  obtain ⟨h20, hok⟩ := chkT_ok h
  have hl := hT.len
  have hn20 : n ≤ 20 := by omega
  have HOK := Hid.mk hok
  have HT := Hid.mk hT
  have HS := Hid.mk hS
  have HR := Hid.mk hR
  have HLN := Hid.mk hl
  obtain ⟨Z, hZ⟩ : ∃ Z : Nat, Z = loadT l := ⟨_, rfl⟩
  rw [← hZ]
  have HZ := Hid.mk hZ
  clear hT h h20 hok hS hR hl hZ
  go_enter Tryd.func5, Tryd.ntmps5
  go_wp2_with fail
  refine HC.out.mono ?_
  rintro e w1 ⟨rfl, hb1⟩
  have HB0 := Hid.mk hb1
  clear hb1 HC
  go_wp2_with fail
  go_loopw [5, 15] (fun s i wr => ∃ (k S : Nat), k ≤ n ∧ i = .int .i64 k ∧ s = .int .i64 S ∧ S ≤ k * 135000000 ∧ Hid (S = loadT (l.take k)) ∧ Hid (Below w.heap.size w wr)) (fun _ i _ => n - (intOf i).toNat)
  case atStart => exact ⟨0, 0, Nat.zero_le _, rfl, rfl, Nat.le_refl _, Hid.mk rfl, HB0⟩
  case round =>
    obtain ⟨k, S, hk, rfl, rfl, hS, HA, HB⟩ := hrel
    by_cases hlt : k < n
    · have hlt' : (k : Int) < (n : Int) := by omega
      obtain ⟨x, rfl⟩ := HT.out.some hlt
      obtain ⟨c0, c1, c2, c3, c4⟩ := (HT.out.kept HB.out).cell x rfl k hlt
      obtain ⟨r, hr⟩ : ∃ r, r = l.getD k noT := ⟨_, rfl⟩
      rw [← hr] at c0 c1 c2 c3 c4
      have hrok := HOK.out r (by rw [hr]; exact getD_memT (by rw [HLN.out]; exact hlt))
      obtain ⟨q1, q2, q3, q4, q5, q6, q7, -⟩ := okT_n hrok
      have hub := upN_le (n := 1000000 * cN r) q3
      have HD : Hid (S + upN (1000000 * cN r) (tN r) = loadT (l.take (k + 1))) := Hid.mk (by rw [HA.out, take_snocT (by rw [HLN.out]; exact hlt), loadT_snoc, hr])
      have hb1 := awD wr (tkC r)
      have HB1 := Hid.mk (bl2 HB.out hb1)
      have HV := Hid.mk (TkAt.new wr r)
      have HS1 := Hid.mk ((HS.out.kept HB.out).kept hb1)
      have HR1 := Hid.mk ((HR.out.kept HB.out).kept hb1)
      have HTK : Hid (∀ d os, Calls Tryd.prog 14 #[r.val] (grow (redrawn (wr.alloc (tkC r)) d) os) fun e w' => e = .returned (.int .i64 (cN r : Nat)) ∧ Below (grow (redrawn (wr.alloc (tkC r)) d) os).heap.size (grow (redrawn (wr.alloc (tkC r)) d) os) w') := Hid.mk (fun d os => takes_any r _ hrok (HS1.out.kept (below_regrown _ d os)) (HR1.out.kept (below_regrown _ d os)))
      have HUP : Hid (∀ W, Calls Tryd.prog 13 #[.int .i64 (1000000 * (cN r : Int)), .int .i64 (tN r : Nat)] W fun e w' => e = .returned (.int .i64 (upN (1000000 * cN r) (tN r) : Nat)) ∧ w' = W) := Hid.mk (fun W => roundedUp_any (1000000 * cN r) (tN r) W (by omega) q3 q4)
      have hU : upN (1000000 * cN r) (tN r) ≤ 135000000 := by omega
      have hev := q6
      have HSB : S + upN (1000000 * cN r) (tN r) ≤ (k + 1) * 135000000 := by omega
      clear hr hb1 hrok q1 q3 q4 q5 q6 q7 hub
      obtain ⟨id, by_, ev, la, ji⟩ := r
      simp only at hev
      rw [← hev] at HUP
      clear hev
      generalize upN (1000000 * cN ⟨id, by_, ev, la, ji⟩) (tN ⟨id, by_, ev, la, ji⟩) = U at *
      generalize cN ⟨id, by_, ev, la, ji⟩ = C at *
      have hC : (C : Int) ≤ 135 := by omega
      have hSk : (S : Int) ≤ 2700000000 := by omega
      have hU' : (U : Int) ≤ 135000000 := by omega
      unfold tkC at HB1 HV HTK
      unfold Tk.val at HTK
      simp only at c0 c1 c2 c3 c4 HB1 HV HTK
      clear HS1 HR1
      go_wp2_with fail
      generalize wr.alloc (.cells #[.int .i64 id, .int .i64 by_, .int .i64 ev, .int .i64 la, .int .i64 ji] 32) = W1 at *
      have r0 := fun d os => cell_kept (below_regrown W1 d os) HV.out.c0
      have r1 := fun d os => cell_kept (below_regrown W1 d os) HV.out.c1
      have r2 := fun d os => cell_kept (below_regrown W1 d os) HV.out.c2
      have r3 := fun d os => cell_kept (below_regrown W1 d os) HV.out.c3
      have r4 := fun d os => cell_kept (below_regrown W1 d os) HV.out.c4
      simp only at r0 r1 r2 r3 r4
      refine wp_region_quiet_below (by kernel_rfl) (by kernel_rfl) ?_
      repeat (go_big_quiet_step (first | (go_at_call 14; with_reducible_and_instances exact Calls.regrown_of (HTK.out _ _)) | (go_at_call 13; with_reducible_and_instances exact Calls.regrown_of (calls_same (HUP.out _)))))
      refine wpQuiet_nil ?_
      intro _ hw'
      obtain ⟨⟨dq, osq⟩, hw''⟩ := hw'
      have hbq := below_regrown W1 dq osq
      rw [hw'']
      have HB2 := Hid.mk (bl2 HB1.out hbq)
      clear r0 r1 r2 r3 r4 HTK HUP hw'' hbq c0 c1 c2 c3 c4 HV HB1
      generalize Go.Sort.grow (redrawn W1 dq) osq = W2 at *
      go_wp2_with fail
      go_roundw
      case rel => exact ⟨k + 1, S + U, by omega, by go_num, by go_num, HSB, HD, HB2⟩
      case measure => simp [intOf]; omega
    · obtain rfl : k = n := by omega
      have HF : Hid (S = Z) := Hid.mk (by rw [HA.out, HZ.out, List.take_of_length_le (by rw [HLN.out]; exact Nat.le_refl _)])
      go_wp2_with fail
      go_ret2
      exact ⟨by rw [HF.out]; rfl, HB.out⟩
end Bw
end Go.Proofs.YtikfdhhcicgppaaDoor
