/- What package guard's See answers of a right guard: good, the same, broken. -/
import Derived.Test.YtopoogdoepdedaaDoorGdSee
namespace Go.Proofs.YtopoogdoepdedaaDoor
open Go.ChangeShapes Go.WideShapes Go.ChangeAt Go.RowKit Go.Sort
namespace Bw
open Bm Cm
theorem add0G (p : Addr) : p.add 0 = p := by unfold Addr.add; simp
theorem add1G (p : Addr) : p.add 1 = ⟨p.block, p.off + 1, none⟩ := by unfold Addr.add; simp
set_option maxHeartbeats 16000000 in
set_option maxRecDepth 100000 in
theorem see_good (key : Nat) (lst b s m : Int) (n : Nat) (a : Option Addr) (len cap : Nat) (l : List UInt8) (w : World) (hR : RulesAt w) (hD : IsBytes w a len cap l) (h2 : 2 ≤ len) (h64 : len ≤ 64) (hk : key ≤ 65535) (hl0 : -1 ≤ lst) (hl1 : lst ≤ 14) (hb0 : 0 ≤ b) (hs : 0 ≤ s ∧ s ≤ 4) (hm : 1 ≤ m ∧ m ≤ 14) (hsum : (l.getD 0 0).toNat = gSum key l) (hn : (l.getD 1 0).toNat % 16 = n) (hn14 : n ≤ 14) (hg : lst = -1 ∨ ((n : Int) - lst + 15) % 15 = 1) :
    Calls Tryd.prog 10 #[gdV key lst b s, .slice a len cap, .int .i64 m] w fun e w' => e = .returned (.tuple #[gdV key (n : Int) 0 1, .int .i64 0]) ∧ Below w.heap.size w w' := by
  cases a with
  | none => exact absurd (hD.2.2.2.1 rfl) (by omega)
  | some x =>
  obtain ⟨hA, hZ, hB⟩ := gdW w (key : Int) lst b s
  have HCK := Hid.mk (fun W => gcheck_ok (key : Int) lst b s W ⟨by omega, by omega⟩ ⟨hl0, hl1⟩ hb0 hs)
  have hWM := fun W => gwithin_any m 1 14 W
  simp only [inG_yes hm] at hWM
  have hSZ := fun W => checkSize_any (some x) len cap W (Nat.le_trans hD.2.1 hD.2.2.1)
  simp only [show szE len = 0 by unfold szE; rw [if_neg (by omega), if_neg (by omega)]] at hSZ
  have HSU := Hid.mk (fun W => sumUnder_any key W (by omega))
  have HS1 := Hid.mk (fun g W (hb : Below w.heap.size w W) (hK : W.cell? ⟨g, 0, none⟩ = some (.string (keyB key))) d os => sum1_any key g x len cap l (grow (redrawn W d) os) (hR.kept (bl2 hb (below_regrown W d os))) (cell_kept (below_regrown W d os) hK) (isBytes_below hD (bl2 hb (below_regrown W d os))) h2 h64)
  have HCT := Hid.mk (fun W => counted_good (key : Int) lst b s (n : Int) m W ⟨hl0, hl1⟩ ⟨by omega, by omega⟩ hg)
  have hd0 := hD.2.2.2.2 x rfl 0 (by omega)
  have hd1 := hD.2.2.2.2 x rfl 1 (by omega)
  rw [add0G] at hd0
  rw [add1G] at hd1
  have HD0 := Hid.mk hd0
  have HD1 := Hid.mk hd1
  obtain ⟨y0, hy0⟩ : ∃ y0, (l.getD 0 0).toNat = y0 := ⟨_, rfl⟩
  obtain ⟨y, hy⟩ : ∃ y, (l.getD 1 0).toNat = y := ⟨_, rfl⟩
  have hy256 : y < 256 := by rw [← hy]; exact UInt8.toNat_lt _
  have hy0256 : y0 < 256 := by rw [← hy0]; exact UInt8.toNat_lt _
  rw [hy0] at HD0
  rw [hy] at HD1
  have hop := and_op hy256
  rw [hy] at hn
  rw [hn] at hop
  rw [hy0] at hsum
  have hSl := gSum_lt key l
  obtain ⟨S, hS⟩ : ∃ S, gSum key l = S := ⟨_, rfl⟩
  rw [hS] at hsum HS1 hSl
  have hS' : (S : Int) ≤ 255 := by omega
  have hn15 : ((n : Int) == 15) = false := by simp; omega
  have hn' : (n : Int) ≤ 14 := by omega
  subst hsum
  clear hS
  have hy' : (y : Int) ≤ 255 := by omega
  have hy0' : (y0 : Int) ≤ 255 := by omega
  have hlen2 : (2 : Int) ≤ (len : Int) := by omega
  have hlen3 : 1 < len := by omega
  have hlen4 : 0 < len := by omega
  have HA := Hid.mk hA
  have HZ := Hid.mk hZ
  have HB := Hid.mk hB
  unfold gdC at HA HZ HB
  unfold gdV at HCK HCT ⊢
  obtain ⟨⟨a0, a1, a2, a3⟩, -⟩ := HA.out.cells
  clear hA hZ hB hD hR hk hl0 hl1 hb0 hs hm hy hy256 hy0 hy0256 hn h64 hd0 hd1 hg hn14 hSl
  generalize keyB key = K at *
  go_enter Tryd.func10, Tryd.ntmps10
  go_wp2_with fail
  refine (HCK.out _).mono ?_
  rintro e w1 ⟨rfl, hb1⟩
  have HA1 := Hid.mk (HA.out.kept hb1)
  have HZ1 := Hid.mk (HZ.out.kept hb1)
  have HB1 := Hid.mk (bl2 HB.out hb1)
  clear hb1 HA HZ HB HCK a0 a1 a2 a3
  obtain ⟨⟨a0, a1, a2, a3⟩, -⟩ := HA1.out.cells
  go_wp2_with fail
  refine (hWM _).mono ?_
  rintro e w2 ⟨rfl, hw2⟩
  rw [hw2]
  clear hw2
  go_wp2_with fail
  refine (hSZ _).mono ?_
  rintro e w2 ⟨rfl, hw2⟩
  rw [hw2]
  clear hw2
  go_wp2_with fail
  refine (HSU.out _).mono ?_
  rintro e w2 ⟨gk, rfl, hK, hb2⟩
  have HA2 := Hid.mk (HA1.out.kept hb2)
  have HZ2 := Hid.mk (HZ1.out.kept hb2)
  have HB2 := Hid.mk (bl2 HB1.out hb2)
  have HK := Hid.mk hK
  clear hb2 HA1 HZ1 HB1 HSU hK hWM hSZ a0 a1 a2 a3
  have d0 := cell_kept HB2.out HD0.out
  have d1 := cell_kept HB2.out HD1.out
  have HS2 := Hid.mk (HS1.out gk w2 HB2.out HK.out)
  have d0r := fun d os => cell_regrown d0 d os
  go_wp2_with fail
  refine wp_region_quiet_below (by kernel_rfl) (by kernel_rfl) ?_
  set_option maxRecDepth 100000 in
  repeat (go_big_quiet_step ((go_at_call 23; exact Calls.regrown_of (HS2.out _ _))))
  refine wpQuiet_nil ?_
  intro _ hw'
  obtain ⟨⟨dq, osq⟩, hw''⟩ := hw'
  have hbq := below_regrown w2 dq osq
  rw [hw'']
  generalize grow (redrawn w2 dq) osq = w3 at *
  have HA3 := Hid.mk (HA2.out.kept hbq)
  have HZ3 := Hid.mk (HZ2.out.kept hbq)
  have HB3 := Hid.mk (bl2 HB2.out hbq)
  clear hw'' hbq HA2 HZ2 HB2 HS2 d0r d0 d1 HS1 HK HD0 HD1
  obtain ⟨⟨a0, a1, a2, a3⟩, -⟩ := HA3.out.cells
  go_wp2_with fail
  refine (HCT.out _).mono ?_
  rintro e w4 ⟨rfl, hb4⟩
  have HB4 := Hid.mk (bl2 HB3.out hb4)
  have hZ4 := HZ3.out.kept hb4
  obtain ⟨⟨z0, z1, z2, z3⟩, y0, y1, y2, y3⟩ := hZ4.cells
  obtain ⟨⟨p1, q1⟩, ⟨p2, q2⟩, ⟨p3, q3⟩, hSX⟩ := hZ4.store (key : Int) (n : Int) 0 1
  have HSX := Hid.mk hSX
  clear hb4 HB3 HZ3 HA3 a0 a1 a2 a3 hSX hZ4 HCT
  go_wp2_with fail
  refine bodyPost_ret (see_res _ _ (w.heap.size + 1) _ _ rfl rfl HSX.out rfl) rfl ?_
  exact ⟨rfl, gd_set HB4.out (Nat.le_succ _) _ _ _ _⟩
set_option maxHeartbeats 16000000 in
set_option maxRecDepth 100000 in
theorem see_same (key : Nat) (lst b s m : Int) (n : Nat) (a : Option Addr) (len cap : Nat) (l : List UInt8) (w : World) (hR : RulesAt w) (hD : IsBytes w a len cap l) (h2 : 2 ≤ len) (h64 : len ≤ 64) (hk : key ≤ 65535) (hl0 : -1 ≤ lst) (hl1 : lst ≤ 14) (hb0 : 0 ≤ b) (hs : 0 ≤ s ∧ s ≤ 4) (hm : 1 ≤ m ∧ m ≤ 14) (hsum : (l.getD 0 0).toNat = gSum key l) (hn : (l.getD 1 0).toNat % 16 = n) (hn14 : n ≤ 14) (hg : lst = (n : Int)) :
    Calls Tryd.prog 10 #[gdV key lst b s, .slice a len cap, .int .i64 m] w fun e w' => e = .returned (.tuple #[gdV key (n : Int) b 3, .int .i64 0]) ∧ Below w.heap.size w w' := by
  cases a with
  | none => exact absurd (hD.2.2.2.1 rfl) (by omega)
  | some x =>
  obtain ⟨hA, hZ, hB⟩ := gdW w (key : Int) lst b s
  have HCK := Hid.mk (fun W => gcheck_ok (key : Int) lst b s W ⟨by omega, by omega⟩ ⟨hl0, hl1⟩ hb0 hs)
  have hWM := fun W => gwithin_any m 1 14 W
  simp only [inG_yes hm] at hWM
  have hSZ := fun W => checkSize_any (some x) len cap W (Nat.le_trans hD.2.1 hD.2.2.1)
  simp only [show szE len = 0 by unfold szE; rw [if_neg (by omega), if_neg (by omega)]] at hSZ
  have HSU := Hid.mk (fun W => sumUnder_any key W (by omega))
  have HS1 := Hid.mk (fun g W (hb : Below w.heap.size w W) (hK : W.cell? ⟨g, 0, none⟩ = some (.string (keyB key))) d os => sum1_any key g x len cap l (grow (redrawn W d) os) (hR.kept (bl2 hb (below_regrown W d os))) (cell_kept (below_regrown W d os) hK) (isBytes_below hD (bl2 hb (below_regrown W d os))) h2 h64)
  have HCT := Hid.mk (fun W => counted_same (key : Int) lst b s (n : Int) m W ⟨by omega, by omega⟩ hg.symm)
  have hd0 := hD.2.2.2.2 x rfl 0 (by omega)
  have hd1 := hD.2.2.2.2 x rfl 1 (by omega)
  rw [add0G] at hd0
  rw [add1G] at hd1
  have HD0 := Hid.mk hd0
  have HD1 := Hid.mk hd1
  obtain ⟨y0, hy0⟩ : ∃ y0, (l.getD 0 0).toNat = y0 := ⟨_, rfl⟩
  obtain ⟨y, hy⟩ : ∃ y, (l.getD 1 0).toNat = y := ⟨_, rfl⟩
  have hy256 : y < 256 := by rw [← hy]; exact UInt8.toNat_lt _
  have hy0256 : y0 < 256 := by rw [← hy0]; exact UInt8.toNat_lt _
  rw [hy0] at HD0
  rw [hy] at HD1
  have hop := and_op hy256
  rw [hy] at hn
  rw [hn] at hop
  rw [hy0] at hsum
  have hSl := gSum_lt key l
  obtain ⟨S, hS⟩ : ∃ S, gSum key l = S := ⟨_, rfl⟩
  rw [hS] at hsum HS1 hSl
  have hS' : (S : Int) ≤ 255 := by omega
  have hn15 : ((n : Int) == 15) = false := by simp; omega
  have hn' : (n : Int) ≤ 14 := by omega
  subst hsum
  clear hS
  have hy' : (y : Int) ≤ 255 := by omega
  have hy0' : (y0 : Int) ≤ 255 := by omega
  have hlen2 : (2 : Int) ≤ (len : Int) := by omega
  have hlen3 : 1 < len := by omega
  have hlen4 : 0 < len := by omega
  have HA := Hid.mk hA
  have HZ := Hid.mk hZ
  have HB := Hid.mk hB
  unfold gdC at HA HZ HB
  unfold gdV at HCK HCT ⊢
  obtain ⟨⟨a0, a1, a2, a3⟩, -⟩ := HA.out.cells
  clear hA hZ hB hD hR hk hl0 hl1 hb0 hs hm hy hy256 hy0 hy0256 hn h64 hd0 hd1 hg hn14 hSl
  generalize keyB key = K at *
  go_enter Tryd.func10, Tryd.ntmps10
  go_wp2_with fail
  refine (HCK.out _).mono ?_
  rintro e w1 ⟨rfl, hb1⟩
  have HA1 := Hid.mk (HA.out.kept hb1)
  have HZ1 := Hid.mk (HZ.out.kept hb1)
  have HB1 := Hid.mk (bl2 HB.out hb1)
  clear hb1 HA HZ HB HCK a0 a1 a2 a3
  obtain ⟨⟨a0, a1, a2, a3⟩, -⟩ := HA1.out.cells
  go_wp2_with fail
  refine (hWM _).mono ?_
  rintro e w2 ⟨rfl, hw2⟩
  rw [hw2]
  clear hw2
  go_wp2_with fail
  refine (hSZ _).mono ?_
  rintro e w2 ⟨rfl, hw2⟩
  rw [hw2]
  clear hw2
  go_wp2_with fail
  refine (HSU.out _).mono ?_
  rintro e w2 ⟨gk, rfl, hK, hb2⟩
  have HA2 := Hid.mk (HA1.out.kept hb2)
  have HZ2 := Hid.mk (HZ1.out.kept hb2)
  have HB2 := Hid.mk (bl2 HB1.out hb2)
  have HK := Hid.mk hK
  clear hb2 HA1 HZ1 HB1 HSU hK hWM hSZ a0 a1 a2 a3
  have d0 := cell_kept HB2.out HD0.out
  have d1 := cell_kept HB2.out HD1.out
  have HS2 := Hid.mk (HS1.out gk w2 HB2.out HK.out)
  have d0r := fun d os => cell_regrown d0 d os
  go_wp2_with fail
  refine wp_region_quiet_below (by kernel_rfl) (by kernel_rfl) ?_
  set_option maxRecDepth 100000 in
  repeat (go_big_quiet_step ((go_at_call 23; exact Calls.regrown_of (HS2.out _ _))))
  refine wpQuiet_nil ?_
  intro _ hw'
  obtain ⟨⟨dq, osq⟩, hw''⟩ := hw'
  have hbq := below_regrown w2 dq osq
  rw [hw'']
  generalize grow (redrawn w2 dq) osq = w3 at *
  have HA3 := Hid.mk (HA2.out.kept hbq)
  have HZ3 := Hid.mk (HZ2.out.kept hbq)
  have HB3 := Hid.mk (bl2 HB2.out hbq)
  clear hw'' hbq HA2 HZ2 HB2 HS2 d0r d0 d1 HS1 HK HD0 HD1
  obtain ⟨⟨a0, a1, a2, a3⟩, -⟩ := HA3.out.cells
  go_wp2_with fail
  refine (HCT.out _).mono ?_
  rintro e w4 ⟨rfl, hb4⟩
  have HB4 := Hid.mk (bl2 HB3.out hb4)
  have hZ4 := HZ3.out.kept hb4
  obtain ⟨⟨z0, z1, z2, z3⟩, y0, y1, y2, y3⟩ := hZ4.cells
  obtain ⟨⟨p1, q1⟩, ⟨p2, q2⟩, ⟨p3, q3⟩, hSX⟩ := hZ4.store (key : Int) (n : Int) b 3
  have HSX := Hid.mk hSX
  clear hb4 HB3 HZ3 HA3 a0 a1 a2 a3 hSX hZ4 HCT
  go_wp2_with fail
  refine bodyPost_ret (see_res _ _ (w.heap.size + 1) _ _ rfl rfl HSX.out rfl) rfl ?_
  exact ⟨rfl, gd_set HB4.out (Nat.le_succ _) _ _ _ _⟩
set_option maxHeartbeats 16000000 in
set_option maxRecDepth 100000 in
theorem see_brk (key : Nat) (lst b s m : Int) (n : Nat) (a : Option Addr) (len cap : Nat) (l : List UInt8) (w : World) (hR : RulesAt w) (hD : IsBytes w a len cap l) (h2 : 2 ≤ len) (h64 : len ≤ 64) (hk : key ≤ 65535) (hl0 : -1 ≤ lst) (hl1 : lst ≤ 14) (hb0 : 0 ≤ b) (hs : 0 ≤ s ∧ s ≤ 4) (hm : 1 ≤ m ∧ m ≤ 14) (hsum : (l.getD 0 0).toNat ≠ gSum key l) (hn : (l.getD 1 0).toNat % 16 = n) (hn14 : n ≤ 14) (hbb : b ≤ 999999) :
    Calls Tryd.prog 10 #[gdV key lst b s, .slice a len cap, .int .i64 m] w fun e w' => e = .returned (.tuple #[gdV key lst (b + 1) 4, .int .i64 0]) ∧ Below w.heap.size w w' := by
  cases a with
  | none => exact absurd (hD.2.2.2.1 rfl) (by omega)
  | some x =>
  obtain ⟨hA, hZ, hB⟩ := gdW w (key : Int) lst b s
  have HCK := Hid.mk (fun W => gcheck_ok (key : Int) lst b s W ⟨by omega, by omega⟩ ⟨hl0, hl1⟩ hb0 hs)
  have hWM := fun W => gwithin_any m 1 14 W
  simp only [inG_yes hm] at hWM
  have hSZ := fun W => checkSize_any (some x) len cap W (Nat.le_trans hD.2.1 hD.2.2.1)
  simp only [show szE len = 0 by unfold szE; rw [if_neg (by omega), if_neg (by omega)]] at hSZ
  have HSU := Hid.mk (fun W => sumUnder_any key W (by omega))
  have HS1 := Hid.mk (fun g W (hb : Below w.heap.size w W) (hK : W.cell? ⟨g, 0, none⟩ = some (.string (keyB key))) d os => sum1_any key g x len cap l (grow (redrawn W d) os) (hR.kept (bl2 hb (below_regrown W d os))) (cell_kept (below_regrown W d os) hK) (isBytes_below hD (bl2 hb (below_regrown W d os))) h2 h64)
  have HCT := Hid.mk (fun W => broken_any (key : Int) lst b s W hb0 hbb)
  have hd0 := hD.2.2.2.2 x rfl 0 (by omega)
  have hd1 := hD.2.2.2.2 x rfl 1 (by omega)
  rw [add0G] at hd0
  rw [add1G] at hd1
  have HD0 := Hid.mk hd0
  have HD1 := Hid.mk hd1
  obtain ⟨y0, hy0⟩ : ∃ y0, (l.getD 0 0).toNat = y0 := ⟨_, rfl⟩
  obtain ⟨y, hy⟩ : ∃ y, (l.getD 1 0).toNat = y := ⟨_, rfl⟩
  have hy256 : y < 256 := by rw [← hy]; exact UInt8.toNat_lt _
  have hy0256 : y0 < 256 := by rw [← hy0]; exact UInt8.toNat_lt _
  rw [hy0] at HD0
  rw [hy] at HD1
  have hop := and_op hy256
  rw [hy] at hn
  rw [hn] at hop
  rw [hy0] at hsum
  have hSl := gSum_lt key l
  obtain ⟨S, hS⟩ : ∃ S, gSum key l = S := ⟨_, rfl⟩
  rw [hS] at hsum HS1 hSl
  have hS' : (S : Int) ≤ 255 := by omega
  have hn15 : ((n : Int) == 15) = false := by simp; omega
  have hn' : (n : Int) ≤ 14 := by omega
  have hne : ((y0 : Int) != (S : Int)) = true := by simp; omega
  clear hS
  have hy' : (y : Int) ≤ 255 := by omega
  have hy0' : (y0 : Int) ≤ 255 := by omega
  have hlen2 : (2 : Int) ≤ (len : Int) := by omega
  have hlen3 : 1 < len := by omega
  have hlen4 : 0 < len := by omega
  have HA := Hid.mk hA
  have HZ := Hid.mk hZ
  have HB := Hid.mk hB
  unfold gdC at HA HZ HB
  unfold gdV at HCK HCT ⊢
  obtain ⟨⟨a0, a1, a2, a3⟩, -⟩ := HA.out.cells
  clear hA hZ hB hD hR hk hl0 hl1 hb0 hs hm hy hy256 hy0 hy0256 hn h64 hd0 hd1 hbb hn14 hsum hSl
  generalize keyB key = K at *
  go_enter Tryd.func10, Tryd.ntmps10
  go_wp2_with fail
  refine (HCK.out _).mono ?_
  rintro e w1 ⟨rfl, hb1⟩
  have HA1 := Hid.mk (HA.out.kept hb1)
  have HZ1 := Hid.mk (HZ.out.kept hb1)
  have HB1 := Hid.mk (bl2 HB.out hb1)
  clear hb1 HA HZ HB HCK a0 a1 a2 a3
  obtain ⟨⟨a0, a1, a2, a3⟩, -⟩ := HA1.out.cells
  go_wp2_with fail
  refine (hWM _).mono ?_
  rintro e w2 ⟨rfl, hw2⟩
  rw [hw2]
  clear hw2
  go_wp2_with fail
  refine (hSZ _).mono ?_
  rintro e w2 ⟨rfl, hw2⟩
  rw [hw2]
  clear hw2
  go_wp2_with fail
  refine (HSU.out _).mono ?_
  rintro e w2 ⟨gk, rfl, hK, hb2⟩
  have HA2 := Hid.mk (HA1.out.kept hb2)
  have HZ2 := Hid.mk (HZ1.out.kept hb2)
  have HB2 := Hid.mk (bl2 HB1.out hb2)
  have HK := Hid.mk hK
  clear hb2 HA1 HZ1 HB1 HSU hK hWM hSZ a0 a1 a2 a3
  have d0 := cell_kept HB2.out HD0.out
  have d1 := cell_kept HB2.out HD1.out
  have HS2 := Hid.mk (HS1.out gk w2 HB2.out HK.out)
  have d0r := fun d os => cell_regrown d0 d os
  go_wp2_with fail
  refine wp_region_quiet_below (by kernel_rfl) (by kernel_rfl) ?_
  set_option maxRecDepth 100000 in
  repeat (go_big_quiet_step ((go_at_call 23; exact Calls.regrown_of (HS2.out _ _))))
  refine wpQuiet_nil ?_
  intro _ hw'
  obtain ⟨⟨dq, osq⟩, hw''⟩ := hw'
  have hbq := below_regrown w2 dq osq
  rw [hw'']
  generalize grow (redrawn w2 dq) osq = w3 at *
  have HA3 := Hid.mk (HA2.out.kept hbq)
  have HZ3 := Hid.mk (HZ2.out.kept hbq)
  have HB3 := Hid.mk (bl2 HB2.out hbq)
  clear hw'' hbq HA2 HZ2 HB2 HS2 d0r d0 d1 HS1 HK HD0 HD1
  obtain ⟨⟨a0, a1, a2, a3⟩, -⟩ := HA3.out.cells
  go_wp2_with fail
  refine (HCT.out _).mono ?_
  rintro e w4 ⟨rfl, hb4⟩
  have HB4 := Hid.mk (bl2 HB3.out hb4)
  have hZ4 := HZ3.out.kept hb4
  obtain ⟨⟨z0, z1, z2, z3⟩, y0, y1, y2, y3⟩ := hZ4.cells
  obtain ⟨⟨p1, q1⟩, ⟨p2, q2⟩, ⟨p3, q3⟩, hSX⟩ := hZ4.store (key : Int) lst (b + 1) 4
  have HSX := Hid.mk hSX
  clear hb4 HB3 HZ3 HA3 a0 a1 a2 a3 hSX hZ4 HCT
  go_wp2_with fail
  refine bodyPost_ret (see_res _ _ (w.heap.size + 1) _ _ rfl rfl HSX.out rfl) rfl ?_
  exact ⟨rfl, gd_set HB4.out (Nat.le_succ _) _ _ _ _⟩
set_option maxHeartbeats 16000000 in
set_option maxRecDepth 100000 in
theorem see_15 (key : Nat) (lst b s m : Int) (a : Option Addr) (len cap : Nat) (l : List UInt8) (w : World) (hR : RulesAt w) (hD : IsBytes w a len cap l) (h2 : 2 ≤ len) (h64 : len ≤ 64) (hk : key ≤ 65535) (hl0 : -1 ≤ lst) (hl1 : lst ≤ 14) (hb0 : 0 ≤ b) (hs : 0 ≤ s ∧ s ≤ 4) (hm : 1 ≤ m ∧ m ≤ 14) (hn : (l.getD 1 0).toNat % 16 = 15) (hbb : b ≤ 999999) :
    Calls Tryd.prog 10 #[gdV key lst b s, .slice a len cap, .int .i64 m] w fun e w' => e = .returned (.tuple #[gdV key lst (b + 1) 4, .int .i64 0]) ∧ Below w.heap.size w w' := by
  cases a with
  | none => exact absurd (hD.2.2.2.1 rfl) (by omega)
  | some x =>
  obtain ⟨hA, hZ, hB⟩ := gdW w (key : Int) lst b s
  have HCK := Hid.mk (fun W => gcheck_ok (key : Int) lst b s W ⟨by omega, by omega⟩ ⟨hl0, hl1⟩ hb0 hs)
  have hWM := fun W => gwithin_any m 1 14 W
  simp only [inG_yes hm] at hWM
  have hSZ := fun W => checkSize_any (some x) len cap W (Nat.le_trans hD.2.1 hD.2.2.1)
  simp only [show szE len = 0 by unfold szE; rw [if_neg (by omega), if_neg (by omega)]] at hSZ
  have HSU := Hid.mk (fun W => sumUnder_any key W (by omega))
  have HS1 := Hid.mk (fun g W (hb : Below w.heap.size w W) (hK : W.cell? ⟨g, 0, none⟩ = some (.string (keyB key))) d os => sum1_any key g x len cap l (grow (redrawn W d) os) (hR.kept (bl2 hb (below_regrown W d os))) (cell_kept (below_regrown W d os) hK) (isBytes_below hD (bl2 hb (below_regrown W d os))) h2 h64)
  have HCT := Hid.mk (fun W => broken_any (key : Int) lst b s W hb0 hbb)
  have hd0 := hD.2.2.2.2 x rfl 0 (by omega)
  have hd1 := hD.2.2.2.2 x rfl 1 (by omega)
  rw [add0G] at hd0
  rw [add1G] at hd1
  have HD0 := Hid.mk hd0
  have HD1 := Hid.mk hd1
  obtain ⟨y0, hy0⟩ : ∃ y0, (l.getD 0 0).toNat = y0 := ⟨_, rfl⟩
  obtain ⟨y, hy⟩ : ∃ y, (l.getD 1 0).toNat = y := ⟨_, rfl⟩
  have hy256 : y < 256 := by rw [← hy]; exact UInt8.toNat_lt _
  have hy0256 : y0 < 256 := by rw [← hy0]; exact UInt8.toNat_lt _
  rw [hy0] at HD0
  rw [hy] at HD1
  have hop := and_op hy256
  rw [hy] at hn
  rw [hn] at hop
  have hy' : (y : Int) ≤ 255 := by omega
  have hy0' : (y0 : Int) ≤ 255 := by omega
  have hlen2 : (2 : Int) ≤ (len : Int) := by omega
  have hlen3 : 1 < len := by omega
  have hlen4 : 0 < len := by omega
  have HA := Hid.mk hA
  have HZ := Hid.mk hZ
  have HB := Hid.mk hB
  unfold gdC at HA HZ HB
  unfold gdV at HCK HCT ⊢
  obtain ⟨⟨a0, a1, a2, a3⟩, -⟩ := HA.out.cells
  clear hA hZ hB hD hR hk hl0 hl1 hb0 hs hm hy hy256 hy0 hy0256 hn h64 hd0 hd1 hbb
  generalize keyB key = K at *
  go_enter Tryd.func10, Tryd.ntmps10
  go_wp2_with fail
  refine (HCK.out _).mono ?_
  rintro e w1 ⟨rfl, hb1⟩
  have HA1 := Hid.mk (HA.out.kept hb1)
  have HZ1 := Hid.mk (HZ.out.kept hb1)
  have HB1 := Hid.mk (bl2 HB.out hb1)
  clear hb1 HA HZ HB HCK a0 a1 a2 a3
  obtain ⟨⟨a0, a1, a2, a3⟩, -⟩ := HA1.out.cells
  go_wp2_with fail
  refine (hWM _).mono ?_
  rintro e w2 ⟨rfl, hw2⟩
  rw [hw2]
  clear hw2
  go_wp2_with fail
  refine (hSZ _).mono ?_
  rintro e w2 ⟨rfl, hw2⟩
  rw [hw2]
  clear hw2
  go_wp2_with fail
  refine (HSU.out _).mono ?_
  rintro e w2 ⟨gk, rfl, hK, hb2⟩
  have HA2 := Hid.mk (HA1.out.kept hb2)
  have HZ2 := Hid.mk (HZ1.out.kept hb2)
  have HB2 := Hid.mk (bl2 HB1.out hb2)
  have HK := Hid.mk hK
  clear hb2 HA1 HZ1 HB1 HSU hK hWM hSZ a0 a1 a2 a3
  have d0 := cell_kept HB2.out HD0.out
  have d1 := cell_kept HB2.out HD1.out
  have HS2 := Hid.mk (HS1.out gk w2 HB2.out HK.out)
  have d0r := fun d os => cell_regrown d0 d os
  go_wp2_with fail
  refine wp_region_quiet_below (by kernel_rfl) (by kernel_rfl) ?_
  set_option maxRecDepth 100000 in
  repeat (go_big_quiet_step (fail))
  refine wpQuiet_nil ?_
  intro _ hw'
  obtain ⟨⟨dq, osq⟩, hw''⟩ := hw'
  have hbq := below_regrown w2 dq osq
  rw [hw'']
  generalize grow (redrawn w2 dq) osq = w3 at *
  have HA3 := Hid.mk (HA2.out.kept hbq)
  have HZ3 := Hid.mk (HZ2.out.kept hbq)
  have HB3 := Hid.mk (bl2 HB2.out hbq)
  clear hw'' hbq HA2 HZ2 HB2 HS2 d0r d0 d1 HS1 HK HD0 HD1
  obtain ⟨⟨a0, a1, a2, a3⟩, -⟩ := HA3.out.cells
  go_wp2_with fail
  refine (HCT.out _).mono ?_
  rintro e w4 ⟨rfl, hb4⟩
  have HB4 := Hid.mk (bl2 HB3.out hb4)
  have hZ4 := HZ3.out.kept hb4
  obtain ⟨⟨z0, z1, z2, z3⟩, y0, y1, y2, y3⟩ := hZ4.cells
  obtain ⟨⟨p1, q1⟩, ⟨p2, q2⟩, ⟨p3, q3⟩, hSX⟩ := hZ4.store (key : Int) lst (b + 1) 4
  have HSX := Hid.mk hSX
  clear hb4 HB3 HZ3 HA3 a0 a1 a2 a3 hSX hZ4 HCT
  go_wp2_with fail
  refine bodyPost_ret (see_res _ _ (w.heap.size + 1) _ _ rfl rfl HSX.out rfl) rfl ?_
  exact ⟨rfl, gd_set HB4.out (Nat.le_succ _) _ _ _ _⟩
end Bw
end Go.Proofs.YtopoogdoepdedaaDoor
