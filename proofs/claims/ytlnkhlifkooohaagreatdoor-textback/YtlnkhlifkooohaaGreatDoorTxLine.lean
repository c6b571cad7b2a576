/- What text.messageLine and text.signalLine answer of right messages and signals. -/
import Derived.Test.YtlnkhlifkooohaaGreatDoorTxBase
import Derived.Deep.RegionHeld3
namespace Go.Proofs.YtlnkhlifkooohaaGreatDoor
open Go.ChangeShapes Go.WideShapes Go.ChangeAt Go.RowKit Go.Sort
namespace Bw
open Sm
theorem bDx (w : World) : Below w.heap.size w w.drew := ⟨rfl, rfl, rfl, Nat.le_refl _, fun _ _ => rfl⟩
theorem five_strs (w : World) (a b c d e : ByteArray) : ∀ (j : Nat) x, [a, b, c, d, e][j]? = some x → (w.alloc (.cells #[.string a, .string b, .string c, .string d, .string e] 9)).cell? ⟨w.heap.size, 0 + j, none⟩ = some (.string x) := by
  intro j x hj
  rw [Nat.zero_add, cell_of_row _ _ j _ _ _ (heap_alloc_new w _)]
  match j, hj with
  | 0, hj => simpa using hj
  | 1, hj => simpa using hj
  | 2, hj => simpa using hj
  | 3, hj => simpa using hj
  | 4, hj => simpa using hj
theorem six_strs (w : World) (a b c d e f : ByteArray) : ∀ (j : Nat) x, [a, b, c, d, e, f][j]? = some x → (w.alloc (.cells #[.string a, .string b, .string c, .string d, .string e, .string f] 9)).cell? ⟨w.heap.size, 0 + j, none⟩ = some (.string x) := by
  intro j x hj
  rw [Nat.zero_add, cell_of_row _ _ j _ _ _ (heap_alloc_new w _)]
  match j, hj with
  | 0, hj => simpa using hj
  | 1, hj => simpa using hj
  | 2, hj => simpa using hj
  | 3, hj => simpa using hj
  | 4, hj => simpa using hj
  | 5, hj => simpa using hj
set_option maxHeartbeats 8000000 in
set_option maxRecDepth 100000 in
theorem messageLine_any (v : MsV) (w : World) (hM : MsIn w v) (hB : MB v.m) (hT : TxT w) :
    Calls Tryz.prog 64 #[msV v] w fun e w' => e = .returned (.string (bA (lineL (wordsM v.m)))) ∧ Below w.heap.size w w' := by
  have HB1 := Hid.mk (ms_box w v)
  have HA1 := Hid.mk (MsAt.box w v)
  have HID := Hid.mk (fun W (h : Below w.heap.size w W) => itoaD v.m.id W (by have := hB.id0; omega) (by have := hB.id1; omega) (hT.kept h))
  have HIS := Hid.mk (fun W (h : Below w.heap.size w W) => itoaD v.m.size W (by have := hB.sz0; omega) (by have := hB.sz1; omega) (hT.kept h))
  have HEI := Hid.mk (fun W => either_any v.m.lo ⟨#[120]⟩ ⟨#[]⟩ W)
  have HWL := Hid.mk (show (Lib.join (wordsM v.m) [32]).length ≤ 100000 from by have := wordsM_len hB; omega)
  have HWS : Hid (wordsM v.m = [[109, 101, 115, 115, 97, 103, 101], v.m.nm.data.toList, lxL v.m, Lib.itoa v.m.size, chL v.m]) := Hid.mk rfl
  obtain ⟨X1, hX1⟩ : ∃ X1, X1 = bA (Lib.itoa v.m.id) := ⟨_, rfl⟩
  obtain ⟨X2, hX2⟩ : ∃ X2 : ByteArray, X2 = (if v.m.lo = true then (⟨#[120]⟩ : ByteArray) else ⟨#[]⟩) := ⟨_, rfl⟩
  obtain ⟨X4, hX4⟩ : ∃ X4, X4 = bA (Lib.itoa v.m.size) := ⟨_, rfl⟩
  have hs1 : X1.size ≤ 11 := by rw [hX1, bA_size]; exact itoa_len (by have := hB.id0; omega) (by have := hB.id1; omega)
  have hs2 : X2.size ≤ 1 := by rw [hX2]; split <;> decide
  have HX12 : Hid (X1 ++ X2 = bA (lxL v.m)) := Hid.mk (by
    rw [hX1, hX2]
    unfold lxL
    split
    · show bA _ ++ bA [120] = _
      rw [bA_add]
    · show bA _ ++ bA [] = _
      rw [bA_add])
  rw [← hX1] at HID
  rw [← hX2] at HEI
  rw [← hX4] at HIS
  have HX4 := Hid.mk hX4
  have HCN : Hid (v.m.ch < 0 → chL v.m = [45]) := Hid.mk (fun h => by unfold chL; rw [if_neg (by omega)])
  have HCS : Hid (∀ k0 : Nat, v.m.ch = k0 → chL v.m = (v.m.sigs.getD k0 noS).nm.data.toList) := Hid.mk (fun k0 h => by unfold chL Msg.at; rw [if_pos (by omega), h]; rfl)
  have HCH : Hid (v.m.ch < 0 ∨ ∃ k0 : Nat, v.m.ch = k0 ∧ k0 < v.n) := Hid.mk (by
    have h1 := hB.ch1
    have h2 : v.m.sigs.length = v.n := hM.row.len
    rcases Int.lt_or_le v.m.ch 0 with h | h
    · exact .inl h
    · exact .inr ⟨v.m.ch.toNat, by omega, by omega⟩)
  have HROW := Hid.mk (fun W (h : Below w.heap.size w W) => (hM.kept h).row)
  clear hM hB hT hX1 hX2 hX4
  generalize wordsM v.m = WS at *
  generalize lxL v.m = LX at *
  generalize chL v.m = CL at *
  generalize Lib.itoa v.m.size = IS at *
  obtain ⟨⟨mid, mlo, mnm, size, mch, sigs⟩, ma, mn, mcap⟩ := v
  unfold msC at HB1 HA1
  unfold msV
  simp only at HB1 HA1 HID HIS HEI HWS HCN HCS HCH HROW ⊢
  obtain ⟨m0, m1, m2, m3, m4, m5⟩ := HA1.out
  simp only at m0 m1 m2 m3 m4 m5
  obtain ⟨W1, hW1⟩ : ∃ W1, W1 = w.alloc (.cells #[.int .i64 mid, .bool mlo, .string mnm, .int .i64 size, .int .i64 mch, .slice ma mn mcap] 24) := ⟨_, rfl⟩
  rw [← hW1] at HB1 HA1 m0 m1 m2 m3 m4 m5
  have HW1 := Hid.mk hW1
  clear hW1
  go_enter Tryz.func64, Tryz.ntmps64
  go_wp2_with fail
  rw [← HW1.out]
  have r0 := fun d os => cell_kept (below_regrown W1 d os) m0
  have r1 := fun d os => cell_kept (below_regrown W1 d os) m1
  refine wp_region_quiet_below (by kernel_rfl) (by kernel_rfl) ?_
  repeat (go_big_quiet_step ((first | (go_at_call 68; exact Calls.regrown_of (HID.out _ (bl2 HB1.out (below_regrown W1 _ _)))) | (go_at_call 108; exact Calls.regrown_of (HEI.out _)))))
  refine wpQuiet_nil ?_
  intro _ hw'
  obtain ⟨⟨dq, osq⟩, hw''⟩ := hw'
  have hbq := below_regrown W1 dq osq
  rw [hw'']

  generalize grow (redrawn W1 dq) osq = W2 at *
  obtain ⟨X3, hX3⟩ : ∃ X3, X3 = X1 ++ X2 := ⟨_, rfl⟩
  rw [← hX3] at HX12 ⊢
  have HX3 : Hid (X3 = bA LX) := HX12
  have HB2 := Hid.mk (bl2 HB1.out hbq)
  have HA2 := Hid.mk (HA1.out.kept hbq)
  clear hw'' hbq r0 r1 m0 m1 m2 m3 m4 m5 hX3
  obtain ⟨m0, m1, m2, m3, m4, m5⟩ := HA2.out
  simp only at m0 m1 m2 m3 m4 m5
  rcases HCH.out with hneg | ⟨k0, hk0, hk0n⟩
  · have HCE := Hid.mk (HCN.out hneg)
    have HEM : Hid (∀ W, Below W2.heap.size W2 W → W.cell? ⟨w.heap.size, 2, none⟩ = some (.string mnm) ∧ W.cell? ⟨w.heap.size, 3, none⟩ = some (.int .i64 size)) := Hid.mk (fun W hb => ⟨cell_kept hb HA2.out.c2, cell_kept hb HA2.out.c3⟩)
    have HI3 := Hid.mk (HIS.out W2.drew (bl2 HB2.out (bDx W2)))
    have HWD : Hid (([⟨#[109, 101, 115, 115, 97, 103, 101]⟩, mnm, X3, X4, ⟨#[45]⟩] : List ByteArray).map (·.data.toList) = WS) := Hid.mk (by
      rw [HWS.out]
      simp only [List.map_cons, List.map_nil]
      rw [HX3.out, HX4.out, HCE.out]
      simp [bA_list])
    go_wp2_with fail
    clear m0 m1 m2 m3 m4 m5
    go_region_held3 (fun W => W.cell? ⟨w.heap.size, 2, none⟩ = some (.string mnm) ∧ W.cell? ⟨w.heap.size, 3, none⟩ = some (.int .i64 size)) (first | exact HEM.out _ (bDx _) | exact HEM.out _ HB3.out | exact HEM.out _ HB4.out | exact HEM.out _ HB5.out) (first
      | (go_at_call 68; with_reducible refine HI3.out.mono ?_; rintro e w3 ⟨rfl, hb3⟩
         have HB3 := Hid.mk (bl2 (bDx W2) hb3)
         have HB4 := Hid.mk (bl2 HB3.out (awB1 w3 (.cells #[.string ⟨#[109, 101, 115, 115, 97, 103, 101]⟩, .string mnm, .string X3, .string X4, .string ⟨#[45]⟩] 9)))
         have HL4 := Hid.mk (lineOf_any [⟨#[109, 101, 115, 115, 97, 103, 101]⟩, mnm, X3, X4, ⟨#[45]⟩] w3.heap.size 5 5 _ rfl (Nat.le_refl _) (five_strs w3 _ _ _ _ _) (by simp) (by rw [HWD.out]; exact HWL.out) (by omega))
         rw [HWD.out] at HL4
         clear hb3)
      | (go_at_call 109; with_reducible refine HL4.out.mono ?_; rintro e w5 ⟨rfl, hb5⟩
         have HB5 := Hid.mk (bl2 HB4.out hb5)
         clear hb5))
    go_wp2_with fail
    go_ret
    exact ⟨rfl, bl2 HB2.out HB5.out⟩
  · subst hk0
    have hk0' : (0 : Int) ≤ (k0 : Int) ∧ (k0 : Int) < (mn : Int) := by omega
    have hRow := HROW.out _ HB2.out
    obtain ⟨x, hx⟩ := hRow.some hk0n
    subst hx
    have hSg := (hRow.at hk0n).c0
    have HCE := Hid.mk (HCS.out k0 rfl)
    generalize (sigs.getD k0 noS).nm = X5 at *
    clear hRow
    have HEM : Hid (∀ W, Below W2.heap.size W2 W → W.cell? ⟨w.heap.size, 2, none⟩ = some (.string mnm) ∧ W.cell? ⟨w.heap.size, 3, none⟩ = some (.int .i64 size)) := Hid.mk (fun W hb => ⟨cell_kept hb HA2.out.c2, cell_kept hb HA2.out.c3⟩)
    have HI3 := Hid.mk (HIS.out W2.drew (bl2 HB2.out (bDx W2)))
    have HWD : Hid (([⟨#[109, 101, 115, 115, 97, 103, 101]⟩, mnm, X3, X4, X5] : List ByteArray).map (·.data.toList) = WS) := Hid.mk (by
      rw [HWS.out]
      simp only [List.map_cons, List.map_nil]
      rw [HX3.out, HX4.out, HCE.out]
      simp [bA_list])
    go_wp2_with fail
    clear m0 m1 m2 m3 m4 m5 hSg
    go_region_held3 (fun W => W.cell? ⟨w.heap.size, 2, none⟩ = some (.string mnm) ∧ W.cell? ⟨w.heap.size, 3, none⟩ = some (.int .i64 size)) (first | exact HEM.out _ (bDx _) | exact HEM.out _ HB3.out | exact HEM.out _ HB4.out | exact HEM.out _ HB5.out) (first
      | (go_at_call 68; with_reducible refine HI3.out.mono ?_; rintro e w3 ⟨rfl, hb3⟩
         have HB3 := Hid.mk (bl2 (bDx W2) hb3)
         have HB4 := Hid.mk (bl2 HB3.out (awB1 w3 (.cells #[.string ⟨#[109, 101, 115, 115, 97, 103, 101]⟩, .string mnm, .string X3, .string X4, .string X5] 9)))
         have HL4 := Hid.mk (lineOf_any [⟨#[109, 101, 115, 115, 97, 103, 101]⟩, mnm, X3, X4, X5] w3.heap.size 5 5 _ rfl (Nat.le_refl _) (five_strs w3 _ _ _ _ _) (by simp) (by rw [HWD.out]; exact HWL.out) (by omega))
         rw [HWD.out] at HL4
         clear hb3)
      | (go_at_call 109; with_reducible refine HL4.out.mono ?_; rintro e w5 ⟨rfl, hb5⟩
         have HB5 := Hid.mk (bl2 HB4.out hb5)
         clear hb5))
    go_wp2_with fail
    go_ret
    exact ⟨rfl, bl2 HB2.out HB5.out⟩
set_option maxHeartbeats 8000000 in
set_option maxRecDepth 100000 in
theorem signalLine_any (s : Sig) (w : World) (hB : SB s) (hT : TxT w) :
    Calls Tryz.prog 65 #[sgV s] w fun e w' => e = .returned (.string (bA (lineL (wordsS s)))) ∧ Below w.heap.size w w' := by
  have HB1 := Hid.mk (sg_box w s)
  have HA1 := Hid.mk (SgAt.box w s)
  have HST := Hid.mk (fun W (h : Below w.heap.size w W) => itoaD s.st W (by have := hB.st0; omega) (by have := hB.st1; omega) (hT.kept h))
  have HSZ := Hid.mk (fun W (h : Below w.heap.size w W) => itoaD s.sz W (by have := hB.sz0; omega) (by have := hB.sz1; omega) (hT.kept h))
  have HMU := Hid.mk (fun W (h : Below w.heap.size w W) => itoaD s.mu W (by have := hB.mu0; omega) (by have := hB.mu1; omega) (hT.kept h))
  have HDI := Hid.mk (fun W (h : Below w.heap.size w W) => itoaD s.di W (by have := hB.di0; omega) (by have := hB.di1; omega) (hT.kept h))
  have HAD := Hid.mk (fun W (h : Below w.heap.size w W) => itoaD s.ad W (by have := hB.ad0; omega) (by have := hB.ad1; omega) (hT.kept h))
  have HKY := Hid.mk (fun W (h : Below w.heap.size w W) => itoaD s.ky W (by have := hB.ky0; omega) (by have := hB.ky1; omega) (hT.kept h))
  have HEB := Hid.mk (fun W => either_any s.bk ⟨#[62]⟩ ⟨#[60]⟩ W)
  have HES := Hid.mk (fun W => either_any s.sg ⟨#[45]⟩ ⟨#[43]⟩ W)
  have HWL := Hid.mk (show (Lib.join (wordsS s) [32]).length ≤ 100000 from by have := wordsS_len hB; omega)
  have HWS : Hid (wordsS s = [[115, 105, 103, 110, 97, 108], s.nm.data.toList, plL s, faL s, Lib.itoa s.ad, kyT s]) := Hid.mk rfl
  obtain ⟨X1, hX1⟩ : ∃ X, X = bA (Lib.itoa s.st) := ⟨_, rfl⟩
  obtain ⟨X2, hX2⟩ : ∃ X, X = bA (Lib.itoa s.sz) := ⟨_, rfl⟩
  obtain ⟨X3, hX3⟩ : ∃ X : ByteArray, X = (if s.bk = true then (⟨#[62]⟩ : ByteArray) else ⟨#[60]⟩) := ⟨_, rfl⟩
  obtain ⟨X4, hX4⟩ : ∃ X : ByteArray, X = (if s.sg = true then (⟨#[45]⟩ : ByteArray) else ⟨#[43]⟩) := ⟨_, rfl⟩
  obtain ⟨X5, hX5⟩ : ∃ X, X = bA (Lib.itoa s.mu) := ⟨_, rfl⟩
  obtain ⟨X6, hX6⟩ : ∃ X, X = bA (Lib.itoa s.di) := ⟨_, rfl⟩
  obtain ⟨XA, hXA⟩ : ∃ X, X = bA (Lib.itoa s.ad) := ⟨_, rfl⟩
  have hs1 : X1.size ≤ 11 := by rw [hX1, bA_size]; exact itoa_len (by have := hB.st0; omega) (by have := hB.st1; omega)
  have hs2 : X2.size ≤ 11 := by rw [hX2, bA_size]; exact itoa_len (by have := hB.sz0; omega) (by have := hB.sz1; omega)
  have hs3 : X3.size ≤ 1 := by rw [hX3]; split <;> decide
  have hs4 : X4.size ≤ 1 := by rw [hX4]; split <;> decide
  have hs5 : X5.size ≤ 11 := by rw [hX5, bA_size]; exact itoa_len (by have := hB.mu0; omega) (by have := hB.mu1; omega)
  have hs6 : X6.size ≤ 11 := by rw [hX6, bA_size]; exact itoa_len (by have := hB.di0; omega) (by have := hB.di1; omega)
  have HPP : Hid (X1 ++ (⟨#[58]⟩ : ByteArray) ++ X2 ++ X3 ++ X4 = bA (plL s)) := Hid.mk (by
    have e3 : X3 = bA (bkL s) := by rw [hX3]; unfold bkL; split <;> rfl
    have e4 : X4 = bA (sgL s) := by rw [hX4]; unfold sgL; split <;> rfl
    rw [hX1, hX2, e3, e4]
    show bA _ ++ bA [58] ++ bA _ ++ bA _ ++ bA _ = _
    rw [bA_add, bA_add, bA_add, bA_add]
    rfl)
  have HFF : Hid (X5 ++ (⟨#[47]⟩ : ByteArray) ++ X6 = bA (faL s)) := Hid.mk (by
    rw [hX5, hX6]
    show bA _ ++ bA [47] ++ bA _ = _
    rw [bA_add, bA_add]
    rfl)
  have g1 : (X1 ++ (⟨#[58]⟩ : ByteArray)).size ≤ 12 := by rw [ByteArray.size_append]; show _ + 1 ≤ _; omega
  have g2 : (X1 ++ (⟨#[58]⟩ : ByteArray) ++ X2).size ≤ 23 := by rw [ByteArray.size_append]; omega
  have g3 : (X1 ++ (⟨#[58]⟩ : ByteArray) ++ X2 ++ X3).size ≤ 24 := by rw [ByteArray.size_append]; omega
  have g4 : (X5 ++ (⟨#[47]⟩ : ByteArray)).size ≤ 12 := by rw [ByteArray.size_append]; show _ + 1 ≤ _; omega
  rw [← hX1] at HST
  rw [← hX2] at HSZ
  rw [← hX3] at HEB
  rw [← hX4] at HES
  rw [← hX5] at HMU
  rw [← hX6] at HDI
  rw [← hXA] at HAD
  have HXA := Hid.mk hXA
  have HKN : Hid (s.ky < 0 → kyT s = [45]) := Hid.mk (fun h => by unfold kyT; rw [if_neg (by omega)])
  have HKS : Hid (0 ≤ s.ky → bA (Lib.itoa s.ky) = bA (kyT s)) := Hid.mk (fun h => by unfold kyT; rw [if_pos h])
  clear hB hT hX1 hX2 hX3 hX4 hX5 hX6 hXA
  generalize wordsS s = WS at *
  generalize plL s = PL at *
  generalize faL s = FL at *
  generalize kyT s = KL at *
  generalize Lib.itoa s.ad = IA at *
  obtain ⟨nm, st, sz, bk, sg, mu, di, ad, ky⟩ := s
  unfold sgC at HB1 HA1
  unfold sgV
  simp only at HB1 HA1 HST HSZ HMU HDI HAD HKY HEB HES HWS HKN HKS ⊢
  obtain ⟨s0, s1, s2, s3, s4, s5, s6, s7, s8⟩ := HA1.out
  simp only at s0 s1 s2 s3 s4 s5 s6 s7 s8
  obtain ⟨W1, hW1⟩ : ∃ W1, W1 = w.alloc (.cells #[.string nm, .int .i64 st, .int .i64 sz, .bool bk, .bool sg, .int .i64 mu, .int .i64 di, .int .i64 ad, .int .i64 ky] 42) := ⟨_, rfl⟩
  rw [← hW1] at HB1 HA1 s0 s1 s2 s3 s4 s5 s6 s7 s8
  have HW1 := Hid.mk hW1
  clear hW1
  go_enter Tryz.func65, Tryz.ntmps65
  go_wp2_with fail
  rw [← HW1.out]
  have r1 := fun d os => cell_kept (below_regrown W1 d os) s1
  have r2 := fun d os => cell_kept (below_regrown W1 d os) s2
  have r3 := fun d os => cell_kept (below_regrown W1 d os) s3
  have r4 := fun d os => cell_kept (below_regrown W1 d os) s4
  refine wp_region_quiet_below (by kernel_rfl) (by kernel_rfl) ?_
  repeat (go_big_quiet_step ((first | (go_at_call 68; first | exact Calls.regrown_of (HST.out _ (bl2 HB1.out (below_regrown W1 _ _))) | exact Calls.regrown_of (HSZ.out _ (bl2 HB1.out (below_regrown W1 _ _)))) | (go_at_call 108; first | exact Calls.regrown_of (HEB.out _) | exact Calls.regrown_of (HES.out _)))))
  refine wpQuiet_nil ?_
  intro _ hw'
  obtain ⟨⟨dq, osq⟩, hw''⟩ := hw'
  have hbq := below_regrown W1 dq osq
  rw [hw'']

  generalize grow (redrawn W1 dq) osq = W2 at *
  obtain ⟨XP, hXP⟩ : ∃ XP, XP = X1 ++ (⟨#[58]⟩ : ByteArray) ++ X2 ++ X3 ++ X4 := ⟨_, rfl⟩
  rw [← hXP] at HPP ⊢
  have HXP : Hid (XP = bA PL) := HPP
  have HB2 := Hid.mk (bl2 HB1.out hbq)
  have HA2 := Hid.mk (HA1.out.kept hbq)
  clear hw'' hbq r1 r2 r3 r4 s0 s1 s2 s3 s4 s5 s6 s7 s8 hXP dq osq
  obtain ⟨s0, s1, s2, s3, s4, s5, s6, s7, s8⟩ := HA2.out
  simp only at s0 s1 s2 s3 s4 s5 s6 s7 s8
  go_wp2_with fail
  have r5 := fun d os => cell_kept (below_regrown W2 d os) s5
  have r6 := fun d os => cell_kept (below_regrown W2 d os) s6
  refine wp_region_quiet_below (by kernel_rfl) (by kernel_rfl) ?_
  repeat (go_big_quiet_step (((go_at_call 68; first | exact Calls.regrown_of (HMU.out _ (bl2 HB2.out (below_regrown W2 _ _))) | exact Calls.regrown_of (HDI.out _ (bl2 HB2.out (below_regrown W2 _ _)))))))
  refine wpQuiet_nil ?_
  intro _ hw'
  obtain ⟨⟨dq, osq⟩, hw''⟩ := hw'
  have hbq := below_regrown W2 dq osq
  rw [hw'']

  generalize grow (redrawn W2 dq) osq = W3 at *
  obtain ⟨XF, hXF⟩ : ∃ XF, XF = X5 ++ (⟨#[47]⟩ : ByteArray) ++ X6 := ⟨_, rfl⟩
  rw [← hXF] at HFF ⊢
  have HXF : Hid (XF = bA FL) := HFF
  have HB3 := Hid.mk (bl2 HB2.out hbq)
  have HA3 := Hid.mk (HA2.out.kept hbq)
  clear hw'' hbq r5 r6 s0 s1 s2 s3 s4 s5 s6 s7 s8 hXF dq osq
  obtain ⟨s0, s1, s2, s3, s4, s5, s6, s7, s8⟩ := HA3.out
  simp only at s0 s1 s2 s3 s4 s5 s6 s7 s8
  by_cases hky : 0 ≤ ky
  · obtain ⟨XK, hXK⟩ : ∃ X, X = bA (Lib.itoa ky) := ⟨_, rfl⟩
    have HKE := Hid.mk (HKS.out hky)
    rw [← hXK] at HKY HKE
    clear hXK
    go_wp2_with fail
    refine (HKY.out _ HB3.out).mono ?_
    rintro e W4 ⟨rfl, hb4⟩
    have HB4 := Hid.mk (bl2 HB3.out hb4)
    have HA4 := Hid.mk (HA3.out.kept hb4)
    clear hb4
    have HEM : Hid (∀ W, Below W4.heap.size W4 W → W.cell? ⟨w.heap.size, 0, none⟩ = some (.string nm) ∧ W.cell? ⟨w.heap.size, 7, none⟩ = some (.int .i64 ad)) := Hid.mk (fun W hb => ⟨cell_kept hb HA4.out.c0, cell_kept hb HA4.out.c7⟩)
    have HI5 := Hid.mk (HAD.out W4.drew (bl2 HB4.out (bDx W4)))
    have HWD : Hid (([⟨#[115, 105, 103, 110, 97, 108]⟩, nm, XP, XF, XA, XK] : List ByteArray).map (·.data.toList) = WS) := Hid.mk (by
      rw [HWS.out]
      simp only [List.map_cons, List.map_nil]
      rw [HXP.out, HXF.out, HXA.out, HKE.out]
      simp [bA_list])
    clear s0 s1 s2 s3 s4 s5 s6 s7 s8
    go_wp2_with fail
    go_region_held3 (fun W => W.cell? ⟨w.heap.size, 0, none⟩ = some (.string nm) ∧ W.cell? ⟨w.heap.size, 7, none⟩ = some (.int .i64 ad)) (first | exact HEM.out _ (bDx _) | exact HEM.out _ HB5.out | exact HEM.out _ HB6.out | exact HEM.out _ HB7.out) (first
      | (go_at_call 68; with_reducible refine HI5.out.mono ?_; rintro e w5 ⟨rfl, hb5⟩
         have HB5 := Hid.mk (bl2 (bDx W4) hb5)
         have HB6 := Hid.mk (bl2 HB5.out (awB1 w5 (.cells #[.string ⟨#[115, 105, 103, 110, 97, 108]⟩, .string nm, .string XP, .string XF, .string XA, .string XK] 9)))
         have HL6 := Hid.mk (lineOf_any [⟨#[115, 105, 103, 110, 97, 108]⟩, nm, XP, XF, XA, XK] w5.heap.size 6 6 _ rfl (Nat.le_refl _) (six_strs w5 _ _ _ _ _ _) (by simp) (by rw [HWD.out]; exact HWL.out) (by omega))
         rw [HWD.out] at HL6
         clear hb5)
      | (go_at_call 109; with_reducible refine HL6.out.mono ?_; rintro e w7 ⟨rfl, hb7⟩
         have HB7 := Hid.mk (bl2 HB6.out hb7)
         clear hb7))
    go_wp2_with fail
    go_ret
    exact ⟨rfl, bl2 HB4.out HB7.out⟩
  · have hky' : ky < 0 := by omega
    have HKE := Hid.mk (HKN.out hky')
    obtain ⟨W4, hW4⟩ : ∃ W4, W4 = W3 := ⟨_, rfl⟩
    rw [← hW4] at HB3 HA3 s0 s1 s2 s3 s4 s5 s6 s7 s8 ⊢
    clear hW4
    have HB4 := HB3
    have HA4 := HA3
    have HEM : Hid (∀ W, Below W4.heap.size W4 W → W.cell? ⟨w.heap.size, 0, none⟩ = some (.string nm) ∧ W.cell? ⟨w.heap.size, 7, none⟩ = some (.int .i64 ad)) := Hid.mk (fun W hb => ⟨cell_kept hb HA4.out.c0, cell_kept hb HA4.out.c7⟩)
    have HI5 := Hid.mk (HAD.out W4.drew (bl2 HB4.out (bDx W4)))
    have HWD : Hid (([⟨#[115, 105, 103, 110, 97, 108]⟩, nm, XP, XF, XA, ⟨#[45]⟩] : List ByteArray).map (·.data.toList) = WS) := Hid.mk (by
      rw [HWS.out]
      simp only [List.map_cons, List.map_nil]
      rw [HXP.out, HXF.out, HXA.out, HKE.out]
      simp [bA_list])
    go_wp2_with fail
    clear s0 s1 s2 s3 s4 s5 s6 s7 s8
    go_region_held3 (fun W => W.cell? ⟨w.heap.size, 0, none⟩ = some (.string nm) ∧ W.cell? ⟨w.heap.size, 7, none⟩ = some (.int .i64 ad)) (first | exact HEM.out _ (bDx _) | exact HEM.out _ HB5.out | exact HEM.out _ HB6.out | exact HEM.out _ HB7.out) (first
      | (go_at_call 68; with_reducible refine HI5.out.mono ?_; rintro e w5 ⟨rfl, hb5⟩
         have HB5 := Hid.mk (bl2 (bDx W4) hb5)
         have HB6 := Hid.mk (bl2 HB5.out (awB1 w5 (.cells #[.string ⟨#[115, 105, 103, 110, 97, 108]⟩, .string nm, .string XP, .string XF, .string XA, .string ⟨#[45]⟩] 9)))
         have HL6 := Hid.mk (lineOf_any [⟨#[115, 105, 103, 110, 97, 108]⟩, nm, XP, XF, XA, ⟨#[45]⟩] w5.heap.size 6 6 _ rfl (Nat.le_refl _) (six_strs w5 _ _ _ _ _ _) (by simp) (by rw [HWD.out]; exact HWL.out) (by omega))
         rw [HWD.out] at HL6
         clear hb5)
      | (go_at_call 109; with_reducible refine HL6.out.mono ?_; rintro e w7 ⟨rfl, hb7⟩
         have HB7 := Hid.mk (bl2 HB6.out hb7)
         clear hb7))
    go_wp2_with fail
    go_ret
    exact ⟨rfl, bl2 HB4.out HB7.out⟩
end Bw
end Go.Proofs.YtlnkhlifkooohaaGreatDoor
