/- The law DelayWorst of right tasks. -/
import Derived.Test.YtikfdhhcicgppaaDoorDwLaw
namespace Go.Proofs.YtikfdhhcicgppaaDoor
open Go.ChangeShapes Go.WideShapes Go.ChangeAt Go.RowKit Go.Sort
namespace Bw
set_option linter.unusedVariables false
set_option maxHeartbeats 16000000 in
set_option maxRecDepth 100000 in
theorem dworst_ok (a : Option Addr) (n c : Nat) (l : List Tk) (w : World) (hT : IsTks w a n c l) (hS : SizesAt w) (hR : RulesAt w) (hD : w.cell? ⟨5, 1, none⟩ = some (.int .u8 1)) (hE : chkT l = 0) :
    Calls Tryd.prog 3 #[.slice a n c] w fun e w' => e = .returned (.bool true) ∧ Below w.heap.size w w' := by
  have HD := Hid.mk hD
  clear hD
  have HT := Hid.mk hT
  have HS := Hid.mk hS
  have HR := Hid.mk hR
  have HEZ := Hid.mk hE
  obtain ⟨E, hE0⟩ : ∃ E : Int, E = chkT l := ⟨_, rfl⟩
  have HE := Hid.mk hE0
  have HL1 := Hid.mk (load_any a n c l w hT hS hR)
  rw [← hE0] at HL1
  clear hT hS hR hE hE0
  go_enter Tryd.func3, Tryd.ntmps3
  go_wp2_with fail
  refine HL1.out.mono ?_
  rintro e w1 ⟨N, rfl, hn1, hn2, hb1⟩
  have HB1 := Hid.mk hb1
  have HNO := Hid.mk hn1
  have HNZ := Hid.mk hn2
  have HL2 := Hid.mk (worst_any a n c l w1 (HT.out.kept hb1) (HS.out.kept hb1) (HR.out.kept hb1))
  rw [← HE.out] at HL2
  clear hb1 hn1 hn2 HL1
  go_wp2_with fail
  refine HL2.out.mono ?_
  rintro e w2 ⟨b, m, d, rfl, hm1, hm2, hb2⟩
  have HB2 := Hid.mk (bl2 HB1.out hb2)
  have HMO := Hid.mk hm1
  have HMZ := Hid.mk hm2
  have HL3 := Hid.mk (lchk_any a n c l w2 (HT.out.kept HB2.out))
  rw [← HE.out] at HL3
  clear hb2 hm1 hm2 HL2
  go_wp2_with fail
  refine HL3.out.mono ?_
  rintro e w3 ⟨rfl, hb3⟩
  have HB3 := Hid.mk (bl2 HB2.out hb3)
  have HK3 := Hid.mk hb3
  have HL4 := Hid.mk (delayed_any w3 (HS.out.kept HB3.out) (HR.out.kept HB3.out))
  clear hb3 HL3
  go_wp2_with fail
  refine HL4.out.mono ?_
  rintro e w4 ⟨rfl, hb4⟩
  have HB4 := Hid.mk (bl2 HB3.out hb4)
  have HK4 := Hid.mk (bl2 HK3.out hb4)
  have HL5 := Hid.mk (dcheck_any a n c l w4 (HT.out.kept HB4.out))
  rw [← HE.out] at HL5
  clear hb4 HL4
  go_wp2_with fail
  refine HL5.out.mono ?_
  rintro e w5 ⟨rfl, hb5⟩
  have HB5 := Hid.mk (bl2 HB4.out hb5)
  have HK5 := Hid.mk (bl2 HK4.out hb5)
  clear hb5 HL5
  have hEz : E = 0 := by rw [HE.out]; exact HEZ.out
  subst hEz
  obtain ⟨hmn, hI0⟩ := HMO.out rfl
  subst hmn
  have HST := Hid.mk (hI0.kept HK5.out)
  have HNE := Hid.mk (HNO.out rfl)
  obtain ⟨h20, hok⟩ := chkT_ok HEZ.out
  have HOK := Hid.mk hok
  have HLN := Hid.mk HT.out.len
  have hn20 : m ≤ 20 := by rw [← HT.out.len]; exact h20
  have hnc := HT.out.le
  have hc63 := mlenD HT.out.max
  have HT5 := Hid.mk (HT.out.kept HB5.out)
  have HD5 := Hid.mk (cell_kept HB5.out HD.out)
  have HTK := Hid.mk (fun (r : Tk) (W : World) (hr : okT r = true) (hb : Below w5.heap.size w5 W) => ltakes_any r W hr (cell_kept hb HD5.out))
  have HUP := Hid.mk lup_any
  have eup := enter_up
  have hm20 : (m : Int) ≤ 20 := by omega
  clear hI0 hok h20 HMO HMZ HNO HNZ HK3 HK4 HK5 HB1 HB2 HB3 HB4 HT HS HR HD HE
  go_wp2_with fail
  go_loopw [8, 69] (fun s i wr => ∃ (k S : Nat), k ≤ m ∧ i = .int .i64 k ∧ s = .int .i64 S ∧ S ≤ k * 135000000 ∧ Hid (S = loadT (l.take k)) ∧ Hid (Below w5.heap.size w5 wr)) (fun _ i _ => m - (intOf i).toNat)
  case atStart => exact ⟨0, 0, Nat.zero_le _, rfl, rfl, Nat.le_refl _, Hid.mk rfl, Hid.mk (Below.refl _ _)⟩
  case round =>
    obtain ⟨k, S, hk, rfl, rfl, hS, HA, HB⟩ := hrel
    by_cases hlt : k < m
    · have hlt' : (k : Int) < (m : Int) := by omega
      obtain ⟨x, rfl⟩ := HT5.out.some hlt
      obtain ⟨r_c0, r_c1, r_c2, r_c3, r_c4⟩ := (HT5.out.kept HB.out).cell x rfl k hlt
      obtain ⟨r_r, r_hr⟩ : ∃ r, r = l.getD k noT := ⟨_, rfl⟩
      rw [← r_hr] at r_c0 r_c1 r_c2 r_c3 r_c4
      have r_ok := HOK.out r_r (by rw [r_hr]; exact getD_memT (by rw [HLN.out]; exact hlt))
      obtain ⟨r_id, r_by, r_la, r_T, r_J, r_C, r_hre, r_hT, r_hJ, r_hC, r_t1, r_t2, r_t3, r_q1, r_q2⟩ := okT_form r_ok
      rw [r_hre] at r_c0 r_c1 r_c2 r_c3 r_c4
      simp only at r_c0 r_c1 r_c2 r_c3 r_c4
      have hub := upN_le (n := 1000000 * r_C) r_t1
      have HDD : Hid (S + upN (1000000 * r_C) r_T = loadT (l.take (k + 1))) := Hid.mk (by rw [HA.out, take_snocT (by rw [HLN.out]; exact hlt), loadT_snoc, ← r_hr, r_hC, r_hT])
      have hb1 := awD wr (tkC r_r)
      have HB1 := Hid.mk (bl2 HB.out hb1)
      have HV := Hid.mk (TkAt.new wr r_r)
      have HTQ : Hid (∀ d os, Calls Tryd.prog 10 #[r_r.val] (grow (redrawn (wr.alloc (tkC r_r)) d) os) fun e w' => e = .returned (.int .i64 (r_C : Nat)) ∧ Below (grow (redrawn (wr.alloc (tkC r_r)) d) os).heap.size (grow (redrawn (wr.alloc (tkC r_r)) d) os) w') := Hid.mk (fun d os => by rw [← r_hC]; exact HTK.out r_r _ r_ok (bl2 HB1.out (below_regrown _ d os)))
      have HSB : S + upN (1000000 * r_C) r_T ≤ (k + 1) * 135000000 := by omega
      have hU : upN (1000000 * r_C) r_T ≤ 135000000 := by omega
      obtain ⟨U, hUe⟩ : ∃ U, U = upN (1000000 * r_C) r_T := ⟨_, rfl⟩
      rw [← hUe] at HSB hU HDD hub
      have hU2 : U ≤ 1000000000000 := by omega
      have hTz : ¬ (r_T : Int) = 0 := by omega
      have i1 : (r_C : Int) ≤ 135 := by omega
      have i2 : (S : Int) ≤ 2700000000 := by omega
      have i3 : (U : Int) ≤ 135000000 := by omega
      have i4 : (r_T : Int) ≤ 1000000 := by omega
      have i5 : 1 ≤ (r_T : Int) := by omega
      have e1 := quo_load (C := r_C) r_t1
      rw [← hUe] at e1
      have e2 := quo_wrap e1 hU2
      rw [r_hre] at HB1 HV HTQ
      unfold tkC at HB1 HV HTQ
      unfold Tk.val at HTQ
      simp only at HB1 HV HTQ
      clear r_hr hb1 r_ok hub r_hre r_hT r_hJ r_hC r_r hUe hU2
      go_wp2_with fail
      generalize wr.alloc (.cells #[.int .i64 r_id, .int .i64 r_by, .int .i64 (r_T : Int), .int .i64 r_la, .int .i64 (r_J : Int)] 32) = W1 at *
      have r0 := fun d os => cell_kept (below_regrown W1 d os) HV.out.c0
      have r1 := fun d os => cell_kept (below_regrown W1 d os) HV.out.c1
      have r2 := fun d os => cell_kept (below_regrown W1 d os) HV.out.c2
      have r3 := fun d os => cell_kept (below_regrown W1 d os) HV.out.c3
      have r4 := fun d os => cell_kept (below_regrown W1 d os) HV.out.c4
      simp only at r0 r1 r2 r3 r4
      refine wp_region_quiet_below (by kernel_rfl) (by kernel_rfl) ?_
      repeat (go_big_quiet_step ((go_at_call 10; with_reducible_and_instances exact Calls.regrown_of (HTQ.out _ _))))
      refine wpQuiet_nil ?_
      intro _ hw'
      obtain ⟨⟨dq, osq⟩, hw''⟩ := hw'
      have hbq := below_regrown W1 dq osq
      rw [hw'']
      have HB2 := Hid.mk (bl2 HB1.out hbq)
      clear r0 r1 r2 r3 r4 HTQ hw'' hbq r_c0 r_c1 r_c2 r_c3 r_c4 HV HB1 e1 e2
      generalize Go.Sort.grow (redrawn W1 dq) osq = W2 at *
      go_wp2_with fail
      go_roundw
      case rel => exact ⟨k + 1, S + U, by omega, by go_num, by first | go_num | (apply int_eq; omega) | rfl, HSB, HDD, HB2⟩
      case measure => simp [intOf]; omega
    · obtain rfl : m = k := by omega
      have HF : Hid (S = N) := Hid.mk (by rw [HA.out, HNE.out, List.take_of_length_le (by rw [HLN.out]; exact Nat.le_refl _)])
      have e := HF.out
      subst e
      clear HA HF hS HNE
      rename World => wl
      go_wp2_with fail
      go_loopw [106] (fun i wr => ∃ k : Nat, k ≤ m ∧ i = .int .i64 k ∧ Hid (Below w5.heap.size w5 wr)) (fun i _ => m - (intOf i).toNat)
      case atStart => exact ⟨0, Nat.zero_le _, rfl, HB⟩
      case round =>
        clear HB
        obtain ⟨k, hk, rfl, HB⟩ := hrel
        rename World => wo
        by_cases hlt : k < m
        · have hlt' : (k : Int) < (m : Int) := by omega
          obtain ⟨x, rfl⟩ := HT5.out.some hlt
          obtain ⟨z, rfl⟩ : ∃ z, b = some z := by
            cases b with
            | none => exact absurd (HST.out.nil rfl) (by omega)
            | some z => exact ⟨z, rfl⟩
          obtain ⟨x_c0, x_c1, x_c2, x_c3, x_c4⟩ := (HT5.out.kept HB.out).cell x rfl k hlt
          obtain ⟨x_r, x_hr⟩ : ∃ r, r = l.getD k noT := ⟨_, rfl⟩
          rw [← x_hr] at x_c0 x_c1 x_c2 x_c3 x_c4
          have x_ok := HOK.out x_r (by rw [x_hr]; exact getD_memT (by rw [HLN.out]; exact hlt))
          obtain ⟨x_id, x_by, x_la, x_T, x_J, x_C, x_hre, x_hT, x_hJ, x_hC, x_t1, x_t2, x_t3, x_q1, x_q2⟩ := okT_form x_ok
          rw [x_hre] at x_c0 x_c1 x_c2 x_c3 x_c4
          simp only at x_c0 x_c1 x_c2 x_c3 x_c4
          have hb1 := awD wo (tkC x_r)
          have HB1 := Hid.mk (bl2 HB.out hb1)
          have HX1 := Hid.mk (TkAt.new wo x_r)
          rw [x_hre] at HB1 HX1
          unfold tkC at HB1 HX1
          simp only at HB1 HX1
          have HXE := Hid.mk x_hre
          have HXR := Hid.mk x_hr
          have HXO := Hid.mk x_ok
          have HXT := Hid.mk x_hT
          have HXJ := Hid.mk x_hJ
          have HXC := Hid.mk x_hC
          obtain ⟨y, N2, C2, hsl, hdr⟩ := slice_tks x m c k hlt hnc
          have HDR := Hid.mk (hdr _ l (HT5.out.kept HB1.out))
          have hN2 : (N2 : Int) ≤ 20 := by have h1 := HDR.out.len; rw [List.length_drop, HLN.out] at h1; omega
          obtain ⟨K1, hK1⟩ : ∃ K1, K1 = k + 1 := ⟨_, rfl⟩
          have HK1 := Hid.mk hK1
          have hsl2 : ∀ W : World, (Instr.slice 22 (.slice (some x) m c) none (some (.int .i64 ((k : Int) + 1))) none).run Tryd.prog W = .ok (.slice (some x) K1 c) W := fun W => by
            have h1 := slice_head x m c (k + 1) (by omega) W
            rw [show ((k + 1 : Nat) : Int) = (k : Int) + 1 by omega, ← hK1] at h1
            exact h1
          have hsl3 : ∀ W : World, (Instr.slice 22 (.slice (some x) m c) none (some (.int .i64 (k : Int))) none).run Tryd.prog W = .ok (.slice (some x) k c) W := slice_head x m c k (by omega)
          have hwk : IntKind.i64.wrap ((k : Int) + 1) = (k : Int) + 1 := wrap_small (by omega) (by omega)
          have hK1m : K1 ≤ m := by omega
          have hkK1 : k < K1 := by omega
          have hK1i : (K1 : Int) ≤ 20 := by omega
          have xj1 : (x_J : Int) ≤ 1000000 := by omega
          have xj2 : (x_T : Int) ≤ 1000000 := by omega
          clear hb1 x_hre x_hr x_ok x_hT x_hJ x_hC hdr hK1 HB
          go_wp2_with fail
          generalize wo.alloc (.cells #[.int .i64 x_id, .int .i64 x_by, .int .i64 (x_T : Int), .int .i64 x_la, .int .i64 (x_J : Int)] 32) = W1 at *
          go_loopw [13, 116] (fun s i wr => ∃ (j S : Nat), j ≤ N2 ∧ i = .int .i64 j ∧ s = .int .i64 S ∧ S ≤ 135 ∧ Hid (S = mostT ((l.drop (k + 1)).take j)) ∧ Hid (Below W1.heap.size W1 wr)) (fun _ i _ => N2 - (intOf i).toNat)
          case atStart => exact ⟨0, 0, Nat.zero_le _, rfl, rfl, by omega, Hid.mk rfl, Hid.mk (Below.refl _ _)⟩
          case round =>
            obtain ⟨j, bb, hj, rfl, rfl, hS, HA, HB⟩ := hrel
            by_cases hjl : j < N2
            · have hjl' : (j : Int) < (N2 : Int) := by omega
              obtain ⟨o_c0, o_c1, o_c2, o_c3, o_c4⟩ := (HDR.out.kept HB.out).cell y rfl j hjl
              obtain ⟨o_r, o_hr⟩ : ∃ r, r = (l.drop (k + 1)).getD j noT := ⟨_, rfl⟩
              rw [← o_hr] at o_c0 o_c1 o_c2 o_c3 o_c4
              have o_ok := HOK.out o_r (by rw [o_hr]; exact List.mem_of_mem_drop (getD_memT (by rw [HDR.out.len]; exact hjl)))
              obtain ⟨o_id, o_by, o_la, o_T, o_J, o_C, o_hre, o_hT, o_hJ, o_hC, o_t1, o_t2, o_t3, o_q1, o_q2⟩ := okT_form o_ok
              rw [o_hre] at o_c0 o_c1 o_c2 o_c3 o_c4
              simp only at o_c0 o_c1 o_c2 o_c3 o_c4
              have hb1 := awD wr (tkC o_r)
              have HBq := Hid.mk (bl2 HB.out hb1)
              have HVq := Hid.mk (TkAt.new wr o_r)
              rw [o_hre] at HBq HVq
              unfold tkC at HBq HVq
              simp only at HBq HVq
              clear hb1
              have HTo := Hid.mk (HTK.out o_r _ o_ok (bl2 HB1.out HBq.out))
              rw [o_hC, o_hre] at HTo
              unfold Tk.val at HTo
              simp only at HTo
              have HDD : Hid (max bb o_C = mostT ((l.drop (k + 1)).take (j + 1))) := Hid.mk (by rw [HA.out, take_snocT (by rw [HDR.out.len]; exact hjl), mostT_snoc, ← o_hr, o_hC])
              obtain ⟨v0, v1, v2, v3, v4⟩ := HVq.out
              simp only at v0 v1 v2 v3 v4
              have i1 : (o_C : Int) ≤ 135 := by omega
              have i2 : (bb : Int) ≤ 135 := by omega
              clear o_hr o_ok o_hre o_hT o_hJ o_hC o_r
              go_wp2_with fail
              refine HTo.out.mono ?_
              rintro e w6 ⟨rfl, hb6⟩
              have HB6 := Hid.mk (bl2 HBq.out hb6)
              clear hb6 HBq HVq v0 v1 v2 v3 v4 o_c0 o_c1 o_c2 o_c3 o_c4 HTo
              rcases Nat.lt_or_ge bb o_C with hmx | hmx
              · have hmx' : (bb : Int) < (o_C : Int) := by omega
                have HE : Hid (o_C = mostT ((l.drop (k + 1)).take (j + 1))) := Hid.mk (by rw [← HDD.out]; omega)
                go_wp2_with fail
                go_roundw
                case rel => exact ⟨j + 1, o_C, by omega, by go_num, by first | rfl | (apply int_eq; omega), by omega, HE, HB6⟩
                case measure => simp [intOf]; omega
              · have hmx' : ¬ ((bb : Int) < (o_C : Int)) := by omega
                have hmx2 : (o_C : Int) ≤ (bb : Int) := by omega
                have HE : Hid (bb = mostT ((l.drop (k + 1)).take (j + 1))) := Hid.mk (by rw [← HDD.out]; omega)
                go_wp2_with fail
                go_roundw
                case rel => exact ⟨j + 1, bb, by omega, by go_num, by first | rfl | (apply int_eq; omega), by omega, HE, HB6⟩
                case measure => simp [intOf]; omega
            · skip
              obtain rfl : N2 = j := by omega
              have HBV : Hid (bb = mostT (l.drop (k + 1))) := Hid.mk (by rw [HA.out, List.take_of_length_le (by rw [HDR.out.len]; exact Nat.le_refl _)])
              obtain ⟨x0, x1, x2, x3, x4⟩ := (HX1.out.kept HB.out).all
              simp only at x0 x1 x2 x3 x4
              have HTx := Hid.mk (HTK.out x_r _ HXO.out (bl2 HB1.out HB.out))
              rw [HXC.out, HXE.out] at HTx
              unfold Tk.val at HTx
              simp only at HTx
              rename World => wb
              clear HA
              go_wp2_with fail
              refine HTx.out.mono ?_
              rintro e wc0 ⟨rfl, hbc⟩
              have HBc := Hid.mk (bl2 HB.out hbc)
              clear hbc HTx HB x0 x1 x2 x3 x4
              obtain ⟨F, hF⟩ : ∃ F, F = bF bb x_r (l.take k) := ⟨_, rfl⟩
              obtain ⟨Z, hZ⟩ : ∃ Z, Z = setF F (bb + x_C) := ⟨_, rfl⟩
              have HFE := Hid.mk hF
              have HZD : Hid (Z = stl F 200002 (bb + x_C)) := Hid.mk hZ
              have HMF : Hid (Mono F) := Hid.mk (by rw [hF]; exact bF_mono bb x_r (l.take k))
              have HFF : Hid (bb + x_C ≤ F (bb + x_C)) := Hid.mk (by rw [hF, ← HXC.out]; exact bF_from HXO.out bb (l.take k))
              have j3 : (bb : Int) ≤ 135 := by omega
              have j4 : (x_C : Int) ≤ 135 := by omega
              clear hF hZ
              go_wp2_with fail
              go_loopw [18] (fun s wr => ∃ (K t : Nat), s = .int .i64 t ∧ t ≤ 200000 ∧ 200002 ≤ K + t ∧ 1 ≤ K ∧ Hid (Z = stl F K t) ∧ Hid (t ≤ F t) ∧ Hid (Below W1.heap.size W1 wr)) (fun s _ => 200001 - (intOf s).toNat)
              case atStart => exact ⟨200002, bb + x_C, by first | rfl | (apply int_eq; omega), by omega, by omega, by omega, HZD, HFF, HBc⟩
              case round =>
                clear HBc
                obtain ⟨K, t, rfl, ht, hKt, hK1, HZ4, HI4, HB4⟩ := hrel
                rename World => wd
                have j0 : (t : Int) ≤ 200000 := by omega
                go_wp2_with fail
                go_loopw [19, 136] (fun s i wr => ∃ (j S : Nat), j ≤ K1 ∧ i = .int .i64 j ∧ s = .int .i64 S ∧ S ≤ 135 + j * 175500000 ∧ Hid (S = bb + sumN (l.take j) t) ∧ Hid (Below W1.heap.size W1 wr)) (fun _ i _ => K1 - (intOf i).toNat)
                case atStart => exact ⟨0, bb, Nat.zero_le _, rfl, rfl, by omega, Hid.mk rfl, HB4⟩
                case round =>
                  clear HB4
                  obtain ⟨j, S, hj, rfl, rfl, hS, HA, HB⟩ := hrel
                  by_cases hjl : j < K1
                  · have hjl' : (j : Int) < (K1 : Int) := by omega
                    have hjm : j < m := by omega
                    obtain ⟨p_c0, p_c1, p_c2, p_c3, p_c4⟩ := (HT5.out.kept (bl2 HB1.out HB.out)).cell x rfl j hjm
                    obtain ⟨p_r, p_hr⟩ : ∃ r, r = l.getD j noT := ⟨_, rfl⟩
                    rw [← p_hr] at p_c0 p_c1 p_c2 p_c3 p_c4
                    have p_ok := HOK.out p_r (by rw [p_hr]; exact getD_memT (by rw [HLN.out]; exact hjm))
                    obtain ⟨p_id, p_by, p_la, p_T, p_J, p_C, p_hre, p_hT, p_hJ, p_hC, p_t1, p_t2, p_t3, p_q1, p_q2⟩ := okT_form p_ok
                    rw [p_hre] at p_c0 p_c1 p_c2 p_c3 p_c4
                    simp only at p_c0 p_c1 p_c2 p_c3 p_c4
                    have hb1 := awD wr (tkC p_r)
                    have HBq := Hid.mk (bl2 HB.out hb1)
                    have HVq := Hid.mk (TkAt.new wr p_r)
                    rw [p_hre] at HBq HVq
                    unfold tkC at HBq HVq
                    simp only at HBq HVq
                    clear hb1
                    have HTQ := Hid.mk (fun (d : Nat) (os : Array Obj) => HTK.out p_r _ p_ok (bl2 (bl2 HB1.out HBq.out) (below_regrown _ d os)))
                    rw [p_hC, p_hre] at HTQ
                    unfold Tk.val at HTQ
                    simp only at HTQ
                    have HUQ : Hid (∀ W, Calls Tryd.prog 11 #[.int .i64 ((t : Int) + (p_J : Int)), .int .i64 (p_T : Nat)] W fun e w' => e = .returned (.int .i64 (upN (t + p_J) p_T : Nat)) ∧ w' = W) := Hid.mk (fun W => HUP.out (t + p_J) p_T W (by omega) p_t1 p_t2)
                    have hUb := upN_le (n := t + p_J) p_t1
                    have HDD : Hid (S + p_C * upN (t + p_J) p_T = bb + sumN (l.take (j + 1)) t) := Hid.mk (by rw [HA.out, take_snocT (by rw [HLN.out]; exact hjm), sumN_snoc, ← p_hr]; unfold wkN; rw [p_hC, p_hJ, p_hT]; omega)
                    have hU : upN (t + p_J) p_T ≤ 1300000 := by omega
                    generalize upN (t + p_J) p_T = U at *
                    obtain ⟨u0, u1, u2⟩ := mul_small hU p_q2
                    have HU2 := Hid.mk u2
                    have HSC : Hid (p_C * U ≤ 175500000) := Hid.mk (by have := HU2.out; omega)
                    have i1 : (p_C : Int) ≤ 135 := by omega
                    have i2 : (S : Int) ≤ 4000000000 := by omega
                    have i3 : (U : Int) ≤ 1300000 := by omega
                    have i4 : (p_T : Int) ≤ 1000000 := by omega
                    have i6 : (p_J : Int) ≤ 1000000 := by omega
                    clear u2 p_hr p_ok p_hre p_hT p_hJ p_hC p_r hUb
                    go_wp2_with fail
                    generalize wr.alloc (.cells #[.int .i64 p_id, .int .i64 p_by, .int .i64 (p_T : Int), .int .i64 p_la, .int .i64 (p_J : Int)] 32) = W2 at *
                    have r0 := fun d os => cell_kept (below_regrown W2 d os) HVq.out.c0
                    have r1 := fun d os => cell_kept (below_regrown W2 d os) HVq.out.c1
                    have r2 := fun d os => cell_kept (below_regrown W2 d os) HVq.out.c2
                    have r3 := fun d os => cell_kept (below_regrown W2 d os) HVq.out.c3
                    have r4 := fun d os => cell_kept (below_regrown W2 d os) HVq.out.c4
                    simp only at r0 r1 r2 r3 r4
                    refine wp_region_quiet_below (by kernel_rfl) (by kernel_rfl) ?_
                    repeat (go_big_quiet_step (first | (go_at_fn 11; with_reducible_and_instances exact Calls.regrown_of (calls_same (HUQ.out _))) | (go_at_call 10; with_reducible_and_instances exact Calls.regrown_of (HTQ.out _ _))))
                    refine wpQuiet_nil ?_
                    intro _ hw'
                    obtain ⟨⟨dq, osq⟩, hw''⟩ := hw'
                    have hbq := below_regrown W2 dq osq
                    rw [hw'']
                    have HBr := Hid.mk (bl2 HBq.out hbq)
                    clear r0 r1 r2 r3 r4 hw'' hbq HVq HBq
                    generalize Go.Sort.grow (redrawn W2 dq) osq = W3 at *
                    clear HTQ HUQ p_c0 p_c1 p_c2 p_c3 p_c4
                    go_wp2_with fail
                    go_roundw
                    case rel => exact ⟨j + 1, S + p_C * U, by omega, by go_num, by first | rfl | (apply int_eq; rw [Int.natCast_add, ← HU2.out]), by have := HSC.out; omega, HDD, HBr⟩
                    case measure => simp [intOf]; omega
                  · obtain rfl : K1 = j := by omega
                    have HFT4 : Hid (S = F t) := Hid.mk (by rw [HA.out, HK1.out, HFE.out]; exact bF_take HXR.out (by rw [HLN.out]; exact hlt))
                    by_cases he : S = t
                    · skip
                      have HZS : Hid (setF (bF bb x_r (l.take k)) (bb + cN x_r) = some t) := Hid.mk (by rw [HXC.out, ← HFE.out]; show stl F 200002 (bb + x_C) = some t; rw [← HZD.out, HZ4.out, stl_here hK1 ht (by rw [← HFT4.out]; exact he)])
                      have he1 : t = S := he.symm
                      subst he1
                      have hsf := setF_some (bF_mono bb x_r (l.take k)) (bF_from HXO.out bb (l.take k)) HZS.out
                      have HFX : Hid (bF bb x_r (l.take k) t = t) := Hid.mk hsf.1.2.1
                      have HBZ : Hid (t ≤ 200000) := Hid.mk hsf.2
                      have HSO := Hid.mk (stop_some HXR.out HBV.out HXO.out HZS.out)
                      obtain ⟨KK, hKK⟩ : ∃ KK : Nat, KK = upN (t + x_J) x_T := ⟨_, rfl⟩
                      have hKb := upN_le (n := t + x_J) x_t1
                      have HUX : Hid (∀ W, Calls Tryd.prog 11 #[.int .i64 ((t : Int) + (x_J : Int)), .int .i64 (x_T : Nat)] W fun e w' => e = .returned (.int .i64 (KK : Nat)) ∧ w' = W) := Hid.mk (fun W => by rw [hKK]; exact HUP.out (t + x_J) x_T W (by omega) x_t1 x_t2)
                      rw [← hKK] at hKb
                      have HKK := Hid.mk hKK
                      have j1 : (t : Int) ≤ 200000 := by omega
                      have j2 : (KK : Int) ≤ 1200000 := by omega
                      obtain ⟨x0, x1, x2, x3, x4⟩ := (HX1.out.kept HB.out).all
                      simp only at x0 x1 x2 x3 x4
                      clear he hsf hKK HZ4 HI4 HFT4 HZS hS HA
                      rename World => we
                      go_wp2_with fail
                      go_loopw [22, 23, 24] (fun sW sw sq wr => ∃ (q v : Nat) (S : Int), q ≤ KK ∧ sq = .int .i64 q ∧ sw = .int .i64 v ∧ sW = .int .i64 S ∧ -1 ≤ S ∧ S ≤ 1300000 ∧ Hid (S = wtK bb x_r (l.take k) (-1) q) ∧ Hid (v = w0 bb x_r (l.take k) q) ∧ v ≤ 200000 ∧ Hid (Below W1.heap.size W1 wr)) (fun _ _ sq _ => KK - (intOf sq).toNat)
                      case atStart => exact ⟨0, bb, -1, Nat.zero_le _, rfl, rfl, rfl, by omega, by omega, Hid.mk rfl, Hid.mk rfl, by omega, HB⟩
                      case round =>
                        clear HB x0 x1 x2 x3 x4
                        obtain ⟨q, v, S6, hq, rfl, rfl, rfl, hS0, hS1, HA6, HV6, hv, HB6⟩ := hrel
                        rename World => wf
                        obtain ⟨x0, x1, x2, x3, x4⟩ := (HX1.out.kept HB6.out).all
                        simp only at x0 x1 x2 x3 x4
                        have hqi : (q : Int) ≤ 1300000 := by omega
                        by_cases hql : q < KK
                        · have hql' : (q : Int) < (KK : Int) := by omega
                          obtain ⟨f1, f2, f3, f4⟩ := round_facts (q := q) HXO.out HFX.out HBZ.out (by rw [HXJ.out, HXT.out, ← HKK.out]; exact hql)
                          have hw0 := w0_facts (q := q) HXO.out HFX.out HBZ.out (by rw [HXJ.out, HXT.out, ← HKK.out]; exact hql)
                          have hlf := wQ_lfp (q := q) HXO.out HFX.out HBZ.out (by rw [HXJ.out, HXT.out, ← HKK.out]; exact hql)
                          obtain ⟨Y, hY⟩ : ∃ Y : Nat, Y = wQ bb x_r (l.take k) q := ⟨_, rfl⟩
                          obtain ⟨QC, hQC⟩ : ∃ QC : Nat, QC = q * x_C := ⟨_, rfl⟩
                          obtain ⟨QT, hQT⟩ : ∃ QT : Nat, QT = q * x_T := ⟨_, rfl⟩
                          have eqc : (q : Int) * (x_C : Int) = (QC : Int) := by rw [hQC, Int.natCast_mul]
                          have eqt : (q : Int) * (x_T : Int) = (QT : Int) := by rw [hQT, Int.natCast_mul]
                          rw [HXC.out, ← hY, ← HV6.out] at hw0
                          rw [HXC.out, ← hY] at hlf
                          rw [← hY] at f2
                          rw [HXT.out, ← hQT] at f3
                          rw [HXC.out, ← hQC] at f4
                          have HW0F := Hid.mk hw0
                          have HLF := Hid.mk hlf
                          have HYB := Hid.mk f2
                          have HQC := Hid.mk hQC
                          have HNX : Hid (max S6 ((x_J : Int) + (Y : Int) - (QT : Int) + (x_C : Int)) = wtK bb x_r (l.take k) (-1) (q + 1)) := Hid.mk (by rw [wtK, ← HA6.out]; unfold tQ; rw [← hY, HXJ.out, HXT.out, HXC.out, eqt])
                          have HNB := Hid.mk (wtK_le3 (q := q + 1) HXO.out HFX.out HBZ.out (by rw [HXJ.out, HXT.out, ← HKK.out]; exact hql))
                          rw [← HNX.out] at HNB
                          have HW0 : Hid (Y = w0 bb x_r (l.take k) (q + 1)) := Hid.mk (by rw [hY]; rfl)
                          have i11 : (QC : Int) ≤ 200000 := by omega
                          have i12 : (QT : Int) ≤ 1200000 := by omega
                          have i13 : (v : Int) ≤ 200000 := by omega
                          have hYB2 : Y ≤ 200000 := f2
                          clear f1 f2 f3 hY hQC hQT hw0 hlf
                          go_wp2_with (go_at_fn 11; with_reducible refine (HUX.out _).mono ?_; rintro e wq ⟨rfl, hwq⟩; rw [hwq]; clear hwq)
                          go_loopw [23] (fun s wr => ∃ v : Nat, s = .int .i64 v ∧ v ≤ 200000 ∧ Hid (bb + q * x_C ≤ v ∧ v ≤ Y ∧ v ≤ gF bb x_r (l.take k) q v) ∧ Hid (Below W1.heap.size W1 wr)) (fun s _ => Y - (intOf s).toNat)
                          case atStart => exact ⟨max v (bb + q * x_C), by first | rfl | (apply int_eq; rw [← HQC.out]; omega), by have := HW0F.out; have := HYB.out; omega, HW0F, HB6⟩
                          case round =>
                            clear HB6 x0 x1 x2 x3 x4
                            obtain ⟨v7, rfl, hv7, HI7, HB7⟩ := hrel
                            rename World => wg
                            have i10 : (v7 : Int) ≤ 200000 := by omega
                            go_wp2_with fail
                            go_loopw [25, 194] (fun s i wr => ∃ (j S : Nat), j ≤ k ∧ i = .int .i64 j ∧ s = .int .i64 S ∧ S ≤ 200000 + j * 175500000 ∧ Hid (S = bb + QC + sumN (l.take j) (v7 + 1)) ∧ Hid (Below W1.heap.size W1 wr)) (fun _ i _ => k - (intOf i).toNat)
                            case atStart => exact ⟨0, bb + QC, Nat.zero_le _, rfl, by first | rfl | (apply int_eq; omega), by omega, Hid.mk rfl, HB7⟩
                            case round =>
                              clear HB7
                              obtain ⟨j, S, hj, rfl, rfl, hS, HA, HB⟩ := hrel
                              by_cases hjl : j < k
                              · have hjl' : (j : Int) < (k : Int) := by omega
                                have hjm : j < m := by omega
                                obtain ⟨s_c0, s_c1, s_c2, s_c3, s_c4⟩ := (HT5.out.kept (bl2 HB1.out HB.out)).cell x rfl j hjm
                                obtain ⟨s_r, s_hr⟩ : ∃ r, r = l.getD j noT := ⟨_, rfl⟩
                                rw [← s_hr] at s_c0 s_c1 s_c2 s_c3 s_c4
                                have s_ok := HOK.out s_r (by rw [s_hr]; exact getD_memT (by rw [HLN.out]; exact hjm))
                                obtain ⟨s_id, s_by, s_la, s_T, s_J, s_C, s_hre, s_hT, s_hJ, s_hC, s_t1, s_t2, s_t3, s_q1, s_q2⟩ := okT_form s_ok
                                rw [s_hre] at s_c0 s_c1 s_c2 s_c3 s_c4
                                simp only at s_c0 s_c1 s_c2 s_c3 s_c4
                                have hb1 := awD wr (tkC s_r)
                                have HBq := Hid.mk (bl2 HB.out hb1)
                                have HVq := Hid.mk (TkAt.new wr s_r)
                                rw [s_hre] at HBq HVq
                                unfold tkC at HBq HVq
                                simp only at HBq HVq
                                clear hb1
                                have HTQ := Hid.mk (fun (d : Nat) (os : Array Obj) => HTK.out s_r _ s_ok (bl2 (bl2 HB1.out HBq.out) (below_regrown _ d os)))
                                rw [s_hC, s_hre] at HTQ
                                unfold Tk.val at HTQ
                                simp only at HTQ
                                have hDb : (v7 + s_J) / s_T ≤ 1200000 := Nat.le_trans (Nat.div_le_self _ _) (by omega)
                                have HDD : Hid (S + s_C * ((v7 + s_J) / s_T + 1) = bb + QC + sumN (l.take (j + 1)) (v7 + 1)) := Hid.mk (by rw [HA.out, take_snocT (by rw [HLN.out]; exact hjm), sumN_snoc, ← s_hr, wkN_next (by rw [s_hT]; exact s_t1), s_hC, s_hJ, s_hT, Nat.mul_comm s_C]; omega)
                                obtain ⟨D, hDe⟩ : ∃ D, D = (v7 + s_J) / s_T := ⟨_, rfl⟩
                                rw [← hDe] at hDb HDD
                                have hD2 : D ≤ 1000000000000 := by omega
                                have HDE := Hid.mk hDe
                                clear hDe
                                obtain ⟨u0, u1, u2⟩ := mul_small (U := D + 1) (C := s_C) (by omega) s_q2
                                rw [show ((D + 1 : Nat) : Int) = (D : Int) + 1 by omega] at u0 u1 u2
                                have HU2 := Hid.mk u2
                                have hTz : ¬ (s_T : Int) = 0 := by omega
                                have i1 : (s_C : Int) ≤ 135 := by omega
                                have i2 : (S : Int) ≤ 4000000000 := by omega
                                have i3 : (D : Int) ≤ 1200000 := by omega
                                have i4 : (s_T : Int) ≤ 1000000 := by omega
                                have i5 : 1 ≤ (s_T : Int) := by omega
                                have i6 : (s_J : Int) ≤ 1000000 := by omega
                                have i7 : (v7 : Int) ≤ 200000 := by omega
                                have HSC : Hid (s_C * (D + 1) ≤ 175500000) := Hid.mk (by have := HU2.out; omega)
                                have e1 := quo_up (J := s_J) (w := v7) s_t1
                                rw [← HDE.out] at e1
                                have e2 := quo_wrap e1 hD2
                                clear u2 s_hr s_ok s_hre s_hT s_hJ s_hC s_r hDb hD2 HDE
                                go_wp2_with fail
                                generalize wr.alloc (.cells #[.int .i64 s_id, .int .i64 s_by, .int .i64 (s_T : Int), .int .i64 s_la, .int .i64 (s_J : Int)] 32) = W2 at *
                                have r0 := fun d os => cell_kept (below_regrown W2 d os) HVq.out.c0
                                have r1 := fun d os => cell_kept (below_regrown W2 d os) HVq.out.c1
                                have r2 := fun d os => cell_kept (below_regrown W2 d os) HVq.out.c2
                                have r3 := fun d os => cell_kept (below_regrown W2 d os) HVq.out.c3
                                have r4 := fun d os => cell_kept (below_regrown W2 d os) HVq.out.c4
                                simp only at r0 r1 r2 r3 r4
                                refine wp_region_quiet_below (by kernel_rfl) (by kernel_rfl) ?_
                                repeat (go_big_quiet_step ((go_at_call 10; with_reducible_and_instances exact Calls.regrown_of (HTQ.out _ _))))
                                refine wpQuiet_nil ?_
                                intro _ hw'
                                obtain ⟨⟨dq, osq⟩, hw''⟩ := hw'
                                have hbq := below_regrown W2 dq osq
                                rw [hw'']
                                have HBr := Hid.mk (bl2 HBq.out hbq)
                                clear r0 r1 r2 r3 r4 hw'' hbq HVq HBq
                                generalize Go.Sort.grow (redrawn W2 dq) osq = W3 at *
                                clear HTQ e1 e2 s_c0 s_c1 s_c2 s_c3 s_c4
                                go_wp2_with fail
                                go_roundw
                                case rel => exact ⟨j + 1, S + s_C * (D + 1), by omega, by go_num, by first | rfl | (apply int_eq; rw [Int.natCast_add, ← HU2.out]), by have := HSC.out; omega, HDD, HBr⟩
                                case measure => simp [intOf]; omega
                              · obtain rfl : k = j := by omega
                                have HG : Hid (S = gF bb x_r (l.take k) q v7) := Hid.mk (by rw [HA.out, HQC.out]; unfold gF; rw [HXC.out])
                                have hst := lfp_step (gF_mono bb x_r (l.take k) q) HLF.out HI7.out.1 HI7.out.2.1 HI7.out.2.2
                                rw [← HG.out] at hst
                                rename World => wh
                                have hQC4 : bb + QC ≤ S := by rw [HA.out]; omega
                                clear HA
                                by_cases he7 : S = v7
                                · have he8 := hst.1 he7
                                  have he9 : v7 = S := he7.symm
                                  subst he9
                                  have hYe : Y = v7 := he8.symm
                                  subst hYe
                                  obtain ⟨x0, x1, x2, x3, x4⟩ := (HX1.out.kept HB.out).all
                                  simp only at x0 x1 x2 x3 x4
                                  have hQT1 : (QT : Int) ≤ 1200000 := by omega
                                  have i8 : (Y : Int) ≤ 200000 := by omega
                                  clear hst he7 he8
                                  go_wp2_with fail
                                  go_roundw
                                  case rel => exact ⟨q + 1, Y, max S6 ((x_J : Int) + (Y : Int) - (QT : Int) + (x_C : Int)), by omega, by go_num, by first | rfl | (apply int_eq; omega), by first | rfl | (apply int_eq; omega), by omega, by have := HNB.out; omega, HNX, HW0, by omega, HB⟩
                                  case measure => simp [intOf]; omega
                                · obtain ⟨a1, a2, a3⟩ := hst.2 he7
                                  have hne : ((S : Int) == (v7 : Int)) = false := by simp; omega
                                  have i8 : (v7 : Int) ≤ 200000 := by omega
                                  have i9 : (S : Int) ≤ 200000 := by have := HYB.out; omega
                                  have HI8 : Hid (bb + q * x_C ≤ S ∧ S ≤ Y ∧ S ≤ gF bb x_r (l.take k) q S) := Hid.mk ⟨by rw [← HQC.out]; exact hQC4, a2, a3⟩
                                  clear hst he7
                                  go_wp2_with fail
                                  go_roundw
                                  case rel => exact ⟨S, rfl, by omega, HI8, HB⟩
                                  case measure => simp [intOf]; omega
                        · obtain rfl : KK = q := by omega
                          have HSS : Hid (stopAt l k = S6) := Hid.mk (by rw [HA6.out, HSO.out, HXJ.out, HXT.out, ← HKK.out])
                          have HFT0 : Hid (fitB l k = (decide (0 ≤ S6) && decide (S6 ≤ x_la))) := Hid.mk (by unfold fitB; rw [HSS.out, ← HXR.out, HXE.out])
                          have HB := HB6
                          clear HA6 HV6 HB6 x0 x1 x2 x3 x4
                          obtain ⟨x0, x1, x2, x3, x4⟩ := (HX1.out.kept HB.out).all
                          simp only at x0 x1 x2 x3 x4
                          rename World => wr
                          by_cases h0 : 0 ≤ S6
                          · have hd0 : decide (0 ≤ S6) = true := decide_eq_true h0
                            have HFT : Hid (fitB l k = decide (S6 ≤ x_la)) := Hid.mk (by rw [HFT0.out, hd0, Bool.true_and])
                            obtain ⟨z0, z1⟩ := ((HST.out.kept HB1.out).kept HB.out).cell z rfl k hlt
                            rw [stL_atW l hlt] at z0 z1
                            simp only at z0 z1
                            rw [HSS.out] at z0
                            rw [HFT.out] at z1
                            obtain ⟨x0, x1, x2, x3, x4⟩ := (HX1.out.kept HB.out).all
                            simp only at x0 x1 x2 x3 x4
                            go_wp2_with (go_at_fn 11; with_reducible refine (HUX.out _).mono ?_; rintro e wq ⟨rfl, hwq⟩; rw [hwq]; clear hwq)
                            go_quiet (fail)
                            go_wp2_with fail
                            go_roundw
                            case rel => exact ⟨k + 1, by omega, by go_num, Hid.mk (below_drD (bl2 HB1.out HB.out) _)⟩
                            case measure => simp [intOf]; omega
                          · have hd0 : decide (0 ≤ S6) = false := decide_eq_false h0
                            have HFT : Hid (fitB l k = false) := Hid.mk (by rw [HFT0.out, hd0, Bool.false_and])
                            obtain ⟨z0, z1⟩ := ((HST.out.kept HB1.out).kept HB.out).cell z rfl k hlt
                            rw [stL_atW l hlt] at z0 z1
                            simp only at z0 z1
                            rw [HSS.out] at z0
                            rw [HFT.out] at z1
                            obtain ⟨x0, x1, x2, x3, x4⟩ := (HX1.out.kept HB.out).all
                            simp only at x0 x1 x2 x3 x4
                            go_wp2_with (go_at_fn 11; with_reducible refine (HUX.out _).mono ?_; rintro e wq ⟨rfl, hwq⟩; rw [hwq]; clear hwq)
                            go_quiet (fail)
                            go_wp2_with fail
                            go_roundw
                            case rel => exact ⟨k + 1, by omega, by go_num, Hid.mk (below_drD (bl2 HB1.out HB.out) _)⟩
                            case measure => simp [intOf]; omega
                    · by_cases h2 : 200000 < S
                      · skip
                        have HZN : Hid (setF (bF bb x_r (l.take k)) (bb + cN x_r) = none) := Hid.mk (by rw [HXC.out, ← HFE.out]; show stl F 200002 (bb + x_C) = none; rw [← HZD.out, HZ4.out, stl_more hK1 ht (by rw [← HFT4.out]; exact he), ← HFT4.out, stl_over h2])
                        have HSS : Hid (stopAt l k = -1) := Hid.mk (stop_none HXR.out HBV.out HZN.out)
                        have HFT : Hid (fitB l k = false) := Hid.mk (by unfold fitB; rw [HSS.out]; rfl)
                        have hne : ((S : Int) == (t : Int)) = false := by simp; omega
                        have h2' : (200000 : Int) < (S : Int) := by omega
                        have h2n : ¬ ((S : Int) ≤ 200000) := by omega
                        have hSi : (S : Int) ≤ 4000000000 := by omega
                        clear he HZ4 HI4 HFT4 HZN HA
                        obtain ⟨z0, z1⟩ := ((HST.out.kept HB1.out).kept HB.out).cell z rfl k hlt
                        rw [stL_atW l hlt] at z0 z1
                        simp only at z0 z1
                        rw [HSS.out] at z0
                        rw [HFT.out] at z1
                        obtain ⟨x0, x1, x2, x3, x4⟩ := (HX1.out.kept HB.out).all
                        simp only at x0 x1 x2 x3 x4
                        go_wp2_with fail
                        go_quiet (fail)
                        go_wp2_with fail
                        go_roundw
                        case rel => exact ⟨k + 1, by omega, by go_num, Hid.mk (below_drD (bl2 HB1.out HB.out) _)⟩
                        case measure => simp [intOf]; omega
                      · skip
                        have hne : ((S : Int) == (t : Int)) = false := by simp; omega
                        have h2' : ¬ ((200000 : Int) < (S : Int)) := by omega
                        have HZ5 : Hid (Z = stl F (K - 1) S) := Hid.mk (by rw [HZ4.out, stl_more hK1 ht (by rw [← HFT4.out]; exact he), ← HFT4.out])
                        have HI5 : Hid (S ≤ F S) := Hid.mk (by have := HMF.out _ _ HI4.out; rw [← HFT4.out] at this; exact this)
                        have hgt : t < S := by have := HI4.out; rw [← HFT4.out] at this; omega
                        clear he HZ4 HI4 HFT4 HA
                        go_wp2_with fail
                        go_roundw
                        case rel => exact ⟨K - 1, S, rfl, by omega, by omega, by omega, HZ5, HI5, HB⟩
                        case measure => simp [intOf]; omega
        · obtain rfl : m = k := by omega
          go_wp2_with fail
          go_ret
          exact ⟨rfl, bl2 HB5.out HB.out⟩
end Bw
end Go.Proofs.YtikfdhhcicgppaaDoor
