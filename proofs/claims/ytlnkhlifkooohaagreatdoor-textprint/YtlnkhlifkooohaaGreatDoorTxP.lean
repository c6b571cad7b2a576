/- What the law's own textOf answers of right messages. -/
import Derived.Test.YtlnkhlifkooohaaGreatDoorTxF1
import Derived.Deep.RegionHeld3
import Derived.Test.YtlnkhlifkooohaaGreatDoorMsgRow
import Derived.Test.YtlnkhlifkooohaaGreatDoorMgCheckA
import Derived.Shelf.Abstract
import Derived.Deep.DeepCutAuto
import Derived.Lib.QuietBelow
import Derived.BigQuiet
namespace Go.Proofs.YtlnkhlifkooohaaGreatDoor
open Go.ChangeShapes Go.WideShapes Go.ChangeAt Go.RowKit Go.Sort
namespace Bw
open Sm
theorem bDx (w : World) : Below w.heap.size w w.drew := ⟨rfl, rfl, rfl, Nat.le_refl _, fun _ _ => rfl⟩
theorem five_strs (w : World) (a b c d e : ByteArray) : ∀ (j : Nat) x, [a, b, c, d, e][j]? = some x → (w.alloc (.cells #[.string a, .string b, .string c, .string d, .string e] 9)).cell? ⟨w.heap.size, 0 + j, none⟩ = some (.string x) := by
  intro j x hj
  rw [Nat.zero_add, cell_of_row _ _ j _ _ _ (heap_alloc_new w _)]
  match j, hj with
  | 0, hj => simpa using hj
  | 1, hj => simpa using hj
  | 2, hj => simpa using hj
  | 3, hj => simpa using hj
  | 4, hj => simpa using hj
theorem six_strs (w : World) (a b c d e f : ByteArray) : ∀ (j : Nat) x, [a, b, c, d, e, f][j]? = some x → (w.alloc (.cells #[.string a, .string b, .string c, .string d, .string e, .string f] 9)).cell? ⟨w.heap.size, 0 + j, none⟩ = some (.string x) := by
  intro j x hj
  rw [Nat.zero_add, cell_of_row _ _ j _ _ _ (heap_alloc_new w _)]
  match j, hj with
  | 0, hj => simpa using hj
  | 1, hj => simpa using hj
  | 2, hj => simpa using hj
  | 3, hj => simpa using hj
  | 4, hj => simpa using hj
  | 5, hj => simpa using hj
set_option maxHeartbeats 8000000 in
set_option maxRecDepth 100000 in
theorem messageLine_any (v : MsV) (w : World) (hM : MsIn w v) (hB : MB v.m) (hT : TxT w) :
    Calls Tryz.prog 64 #[msV v] w fun e w' => e = .returned (.string (bA (lineL (wordsM v.m)))) ∧ Below w.heap.size w w' := by
  have HB1 := Hid.mk (ms_box w v)
  have HA1 := Hid.mk (MsAt.box w v)
  have HID := Hid.mk (fun W (h : Below w.heap.size w W) => itoaD v.m.id W (by have := hB.id0; omega) (by have := hB.id1; omega) (hT.kept h))
  have HIS := Hid.mk (fun W (h : Below w.heap.size w W) => itoaD v.m.size W (by have := hB.sz0; omega) (by have := hB.sz1; omega) (hT.kept h))
  have HEI := Hid.mk (fun W => either_any v.m.lo ⟨#[120]⟩ ⟨#[]⟩ W)
  have HWL := Hid.mk (show (Lib.join (wordsM v.m) [32]).length ≤ 100000 from by have := wordsM_len hB; omega)
  have HWS : Hid (wordsM v.m = [[109, 101, 115, 115, 97, 103, 101], v.m.nm.data.toList, lxL v.m, Lib.itoa v.m.size, chL v.m]) := Hid.mk rfl
  obtain ⟨X1, hX1⟩ : ∃ X1, X1 = bA (Lib.itoa v.m.id) := ⟨_, rfl⟩
  obtain ⟨X2, hX2⟩ : ∃ X2 : ByteArray, X2 = (if v.m.lo = true then (⟨#[120]⟩ : ByteArray) else ⟨#[]⟩) := ⟨_, rfl⟩
  obtain ⟨X4, hX4⟩ : ∃ X4, X4 = bA (Lib.itoa v.m.size) := ⟨_, rfl⟩
  have hs1 : X1.size ≤ 11 := by rw [hX1, bA_size]; exact itoa_len (by have := hB.id0; omega) (by have := hB.id1; omega)
  have hs2 : X2.size ≤ 1 := by rw [hX2]; split <;> decide
  have HX12 : Hid (X1 ++ X2 = bA (lxL v.m)) := Hid.mk (by
    rw [hX1, hX2]
    unfold lxL
    split
    · show bA _ ++ bA [120] = _
      rw [bA_add]
    · show bA _ ++ bA [] = _
      rw [bA_add])
  rw [← hX1] at HID
  rw [← hX2] at HEI
  rw [← hX4] at HIS
  have HX4 := Hid.mk hX4
  have HCN : Hid (v.m.ch < 0 → chL v.m = [45]) := Hid.mk (fun h => by unfold chL; rw [if_neg (by omega)])
  have HCS : Hid (∀ k0 : Nat, v.m.ch = k0 → chL v.m = (v.m.sigs.getD k0 noS).nm.data.toList) := Hid.mk (fun k0 h => by unfold chL Msg.at; rw [if_pos (by omega), h]; rfl)
  have HCH : Hid (v.m.ch < 0 ∨ ∃ k0 : Nat, v.m.ch = k0 ∧ k0 < v.n) := Hid.mk (by
    have h1 := hB.ch1
    have h2 : v.m.sigs.length = v.n := hM.row.len
    rcases Int.lt_or_le v.m.ch 0 with h | h
    · exact .inl h
    · exact .inr ⟨v.m.ch.toNat, by omega, by omega⟩)
  have HROW := Hid.mk (fun W (h : Below w.heap.size w W) => (hM.kept h).row)
  clear hM hB hT hX1 hX2 hX4
  generalize wordsM v.m = WS at *
  generalize lxL v.m = LX at *
  generalize chL v.m = CL at *
  generalize Lib.itoa v.m.size = IS at *
  obtain ⟨⟨mid, mlo, mnm, size, mch, sigs⟩, ma, mn, mcap⟩ := v
  unfold msC at HB1 HA1
  unfold msV
  simp only at HB1 HA1 HID HIS HEI HWS HCN HCS HCH HROW ⊢
  obtain ⟨m0, m1, m2, m3, m4, m5⟩ := HA1.out
  simp only at m0 m1 m2 m3 m4 m5
  obtain ⟨W1, hW1⟩ : ∃ W1, W1 = w.alloc (.cells #[.int .i64 mid, .bool mlo, .string mnm, .int .i64 size, .int .i64 mch, .slice ma mn mcap] 24) := ⟨_, rfl⟩
  rw [← hW1] at HB1 HA1 m0 m1 m2 m3 m4 m5
  have HW1 := Hid.mk hW1
  clear hW1
  go_enter Tryz.func64, Tryz.ntmps64
  go_wp2_with fail
  rw [← HW1.out]
  have r0 := fun d os => cell_kept (below_regrown W1 d os) m0
  have r1 := fun d os => cell_kept (below_regrown W1 d os) m1
  refine wp_region_quiet_below (by kernel_rfl) (by kernel_rfl) ?_
  repeat (go_big_quiet_step ((first | (go_at_call 68; exact Calls.regrown_of (HID.out _ (bl2 HB1.out (below_regrown W1 _ _)))) | (go_at_call 108; exact Calls.regrown_of (HEI.out _)))))
  refine wpQuiet_nil ?_
  intro _ hw'
  obtain ⟨⟨dq, osq⟩, hw''⟩ := hw'
  have hbq := below_regrown W1 dq osq
  rw [hw'']

  generalize grow (redrawn W1 dq) osq = W2 at *
  obtain ⟨X3, hX3⟩ : ∃ X3, X3 = X1 ++ X2 := ⟨_, rfl⟩
  rw [← hX3] at HX12 ⊢
  have HX3 : Hid (X3 = bA LX) := HX12
  have HB2 := Hid.mk (bl2 HB1.out hbq)
  have HA2 := Hid.mk (HA1.out.kept hbq)
  clear hw'' hbq r0 r1 m0 m1 m2 m3 m4 m5 hX3
  obtain ⟨m0, m1, m2, m3, m4, m5⟩ := HA2.out
  simp only at m0 m1 m2 m3 m4 m5
  rcases HCH.out with hneg | ⟨k0, hk0, hk0n⟩
  · have HCE := Hid.mk (HCN.out hneg)
    have HEM : Hid (∀ W, Below W2.heap.size W2 W → W.cell? ⟨w.heap.size, 2, none⟩ = some (.string mnm) ∧ W.cell? ⟨w.heap.size, 3, none⟩ = some (.int .i64 size)) := Hid.mk (fun W hb => ⟨cell_kept hb HA2.out.c2, cell_kept hb HA2.out.c3⟩)
    have HI3 := Hid.mk (HIS.out W2.drew (bl2 HB2.out (bDx W2)))
    have HWD : Hid (([⟨#[109, 101, 115, 115, 97, 103, 101]⟩, mnm, X3, X4, ⟨#[45]⟩] : List ByteArray).map (·.data.toList) = WS) := Hid.mk (by
      rw [HWS.out]
      simp only [List.map_cons, List.map_nil]
      rw [HX3.out, HX4.out, HCE.out]
      simp [bA_list])
    go_wp2_with fail
    clear m0 m1 m2 m3 m4 m5
    go_region_held3 (fun W => W.cell? ⟨w.heap.size, 2, none⟩ = some (.string mnm) ∧ W.cell? ⟨w.heap.size, 3, none⟩ = some (.int .i64 size)) (first | exact HEM.out _ (bDx _) | exact HEM.out _ HB3.out | exact HEM.out _ HB4.out | exact HEM.out _ HB5.out) (first
      | (go_at_call 68; with_reducible refine HI3.out.mono ?_; rintro e w3 ⟨rfl, hb3⟩
         have HB3 := Hid.mk (bl2 (bDx W2) hb3)
         have HB4 := Hid.mk (bl2 HB3.out (awB1 w3 (.cells #[.string ⟨#[109, 101, 115, 115, 97, 103, 101]⟩, .string mnm, .string X3, .string X4, .string ⟨#[45]⟩] 9)))
         have HL4 := Hid.mk (lineOf_any [⟨#[109, 101, 115, 115, 97, 103, 101]⟩, mnm, X3, X4, ⟨#[45]⟩] w3.heap.size 5 5 _ rfl (Nat.le_refl _) (five_strs w3 _ _ _ _ _) (by simp) (by rw [HWD.out]; exact HWL.out) (by omega))
         rw [HWD.out] at HL4
         clear hb3)
      | (go_at_call 109; with_reducible refine HL4.out.mono ?_; rintro e w5 ⟨rfl, hb5⟩
         have HB5 := Hid.mk (bl2 HB4.out hb5)
         clear hb5))
    go_wp2_with fail
    go_ret
    exact ⟨rfl, bl2 HB2.out HB5.out⟩
  · subst hk0
    have hk0' : (0 : Int) ≤ (k0 : Int) ∧ (k0 : Int) < (mn : Int) := by omega
    have hRow := HROW.out _ HB2.out
    obtain ⟨x, hx⟩ := hRow.some hk0n
    subst hx
    have hSg := (hRow.at hk0n).c0
    have HCE := Hid.mk (HCS.out k0 rfl)
    generalize (sigs.getD k0 noS).nm = X5 at *
    clear hRow
    have HEM : Hid (∀ W, Below W2.heap.size W2 W → W.cell? ⟨w.heap.size, 2, none⟩ = some (.string mnm) ∧ W.cell? ⟨w.heap.size, 3, none⟩ = some (.int .i64 size)) := Hid.mk (fun W hb => ⟨cell_kept hb HA2.out.c2, cell_kept hb HA2.out.c3⟩)
    have HI3 := Hid.mk (HIS.out W2.drew (bl2 HB2.out (bDx W2)))
    have HWD : Hid (([⟨#[109, 101, 115, 115, 97, 103, 101]⟩, mnm, X3, X4, X5] : List ByteArray).map (·.data.toList) = WS) := Hid.mk (by
      rw [HWS.out]
      simp only [List.map_cons, List.map_nil]
      rw [HX3.out, HX4.out, HCE.out]
      simp [bA_list])
    go_wp2_with fail
    clear m0 m1 m2 m3 m4 m5 hSg
    go_region_held3 (fun W => W.cell? ⟨w.heap.size, 2, none⟩ = some (.string mnm) ∧ W.cell? ⟨w.heap.size, 3, none⟩ = some (.int .i64 size)) (first | exact HEM.out _ (bDx _) | exact HEM.out _ HB3.out | exact HEM.out _ HB4.out | exact HEM.out _ HB5.out) (first
      | (go_at_call 68; with_reducible refine HI3.out.mono ?_; rintro e w3 ⟨rfl, hb3⟩
         have HB3 := Hid.mk (bl2 (bDx W2) hb3)
         have HB4 := Hid.mk (bl2 HB3.out (awB1 w3 (.cells #[.string ⟨#[109, 101, 115, 115, 97, 103, 101]⟩, .string mnm, .string X3, .string X4, .string X5] 9)))
         have HL4 := Hid.mk (lineOf_any [⟨#[109, 101, 115, 115, 97, 103, 101]⟩, mnm, X3, X4, X5] w3.heap.size 5 5 _ rfl (Nat.le_refl _) (five_strs w3 _ _ _ _ _) (by simp) (by rw [HWD.out]; exact HWL.out) (by omega))
         rw [HWD.out] at HL4
         clear hb3)
      | (go_at_call 109; with_reducible refine HL4.out.mono ?_; rintro e w5 ⟨rfl, hb5⟩
         have HB5 := Hid.mk (bl2 HB4.out hb5)
         clear hb5))
    go_wp2_with fail
    go_ret
    exact ⟨rfl, bl2 HB2.out HB5.out⟩
set_option maxHeartbeats 8000000 in
set_option maxRecDepth 100000 in
theorem signalLine_any (s : Sig) (w : World) (hB : SB s) (hT : TxT w) :
    Calls Tryz.prog 65 #[sgV s] w fun e w' => e = .returned (.string (bA (lineL (wordsS s)))) ∧ Below w.heap.size w w' := by
  have HB1 := Hid.mk (sg_box w s)
  have HA1 := Hid.mk (SgAt.box w s)
  have HST := Hid.mk (fun W (h : Below w.heap.size w W) => itoaD s.st W (by have := hB.st0; omega) (by have := hB.st1; omega) (hT.kept h))
  have HSZ := Hid.mk (fun W (h : Below w.heap.size w W) => itoaD s.sz W (by have := hB.sz0; omega) (by have := hB.sz1; omega) (hT.kept h))
  have HMU := Hid.mk (fun W (h : Below w.heap.size w W) => itoaD s.mu W (by have := hB.mu0; omega) (by have := hB.mu1; omega) (hT.kept h))
  have HDI := Hid.mk (fun W (h : Below w.heap.size w W) => itoaD s.di W (by have := hB.di0; omega) (by have := hB.di1; omega) (hT.kept h))
  have HAD := Hid.mk (fun W (h : Below w.heap.size w W) => itoaD s.ad W (by have := hB.ad0; omega) (by have := hB.ad1; omega) (hT.kept h))
  have HKY := Hid.mk (fun W (h : Below w.heap.size w W) => itoaD s.ky W (by have := hB.ky0; omega) (by have := hB.ky1; omega) (hT.kept h))
  have HEB := Hid.mk (fun W => either_any s.bk ⟨#[62]⟩ ⟨#[60]⟩ W)
  have HES := Hid.mk (fun W => either_any s.sg ⟨#[45]⟩ ⟨#[43]⟩ W)
  have HWL := Hid.mk (show (Lib.join (wordsS s) [32]).length ≤ 100000 from by have := wordsS_len hB; omega)
  have HWS : Hid (wordsS s = [[115, 105, 103, 110, 97, 108], s.nm.data.toList, plL s, faL s, Lib.itoa s.ad, kyT s]) := Hid.mk rfl
  obtain ⟨X1, hX1⟩ : ∃ X, X = bA (Lib.itoa s.st) := ⟨_, rfl⟩
  obtain ⟨X2, hX2⟩ : ∃ X, X = bA (Lib.itoa s.sz) := ⟨_, rfl⟩
  obtain ⟨X3, hX3⟩ : ∃ X : ByteArray, X = (if s.bk = true then (⟨#[62]⟩ : ByteArray) else ⟨#[60]⟩) := ⟨_, rfl⟩
  obtain ⟨X4, hX4⟩ : ∃ X : ByteArray, X = (if s.sg = true then (⟨#[45]⟩ : ByteArray) else ⟨#[43]⟩) := ⟨_, rfl⟩
  obtain ⟨X5, hX5⟩ : ∃ X, X = bA (Lib.itoa s.mu) := ⟨_, rfl⟩
  obtain ⟨X6, hX6⟩ : ∃ X, X = bA (Lib.itoa s.di) := ⟨_, rfl⟩
  obtain ⟨XA, hXA⟩ : ∃ X, X = bA (Lib.itoa s.ad) := ⟨_, rfl⟩
  have hs1 : X1.size ≤ 11 := by rw [hX1, bA_size]; exact itoa_len (by have := hB.st0; omega) (by have := hB.st1; omega)
  have hs2 : X2.size ≤ 11 := by rw [hX2, bA_size]; exact itoa_len (by have := hB.sz0; omega) (by have := hB.sz1; omega)
  have hs3 : X3.size ≤ 1 := by rw [hX3]; split <;> decide
  have hs4 : X4.size ≤ 1 := by rw [hX4]; split <;> decide
  have hs5 : X5.size ≤ 11 := by rw [hX5, bA_size]; exact itoa_len (by have := hB.mu0; omega) (by have := hB.mu1; omega)
  have hs6 : X6.size ≤ 11 := by rw [hX6, bA_size]; exact itoa_len (by have := hB.di0; omega) (by have := hB.di1; omega)
  have HPP : Hid (X1 ++ (⟨#[58]⟩ : ByteArray) ++ X2 ++ X3 ++ X4 = bA (plL s)) := Hid.mk (by
    have e3 : X3 = bA (bkL s) := by rw [hX3]; unfold bkL; split <;> rfl
    have e4 : X4 = bA (sgL s) := by rw [hX4]; unfold sgL; split <;> rfl
    rw [hX1, hX2, e3, e4]
    show bA _ ++ bA [58] ++ bA _ ++ bA _ ++ bA _ = _
    rw [bA_add, bA_add, bA_add, bA_add]
    rfl)
  have HFF : Hid (X5 ++ (⟨#[47]⟩ : ByteArray) ++ X6 = bA (faL s)) := Hid.mk (by
    rw [hX5, hX6]
    show bA _ ++ bA [47] ++ bA _ = _
    rw [bA_add, bA_add]
    rfl)
  have g1 : (X1 ++ (⟨#[58]⟩ : ByteArray)).size ≤ 12 := by rw [ByteArray.size_append]; show _ + 1 ≤ _; omega
  have g2 : (X1 ++ (⟨#[58]⟩ : ByteArray) ++ X2).size ≤ 23 := by rw [ByteArray.size_append]; omega
  have g3 : (X1 ++ (⟨#[58]⟩ : ByteArray) ++ X2 ++ X3).size ≤ 24 := by rw [ByteArray.size_append]; omega
  have g4 : (X5 ++ (⟨#[47]⟩ : ByteArray)).size ≤ 12 := by rw [ByteArray.size_append]; show _ + 1 ≤ _; omega
  rw [← hX1] at HST
  rw [← hX2] at HSZ
  rw [← hX3] at HEB
  rw [← hX4] at HES
  rw [← hX5] at HMU
  rw [← hX6] at HDI
  rw [← hXA] at HAD
  have HXA := Hid.mk hXA
  have HKN : Hid (s.ky < 0 → kyT s = [45]) := Hid.mk (fun h => by unfold kyT; rw [if_neg (by omega)])
  have HKS : Hid (0 ≤ s.ky → bA (Lib.itoa s.ky) = bA (kyT s)) := Hid.mk (fun h => by unfold kyT; rw [if_pos h])
  clear hB hT hX1 hX2 hX3 hX4 hX5 hX6 hXA
  generalize wordsS s = WS at *
  generalize plL s = PL at *
  generalize faL s = FL at *
  generalize kyT s = KL at *
  generalize Lib.itoa s.ad = IA at *
  obtain ⟨nm, st, sz, bk, sg, mu, di, ad, ky⟩ := s
  unfold sgC at HB1 HA1
  unfold sgV
  simp only at HB1 HA1 HST HSZ HMU HDI HAD HKY HEB HES HWS HKN HKS ⊢
  obtain ⟨s0, s1, s2, s3, s4, s5, s6, s7, s8⟩ := HA1.out
  simp only at s0 s1 s2 s3 s4 s5 s6 s7 s8
  obtain ⟨W1, hW1⟩ : ∃ W1, W1 = w.alloc (.cells #[.string nm, .int .i64 st, .int .i64 sz, .bool bk, .bool sg, .int .i64 mu, .int .i64 di, .int .i64 ad, .int .i64 ky] 42) := ⟨_, rfl⟩
  rw [← hW1] at HB1 HA1 s0 s1 s2 s3 s4 s5 s6 s7 s8
  have HW1 := Hid.mk hW1
  clear hW1
  go_enter Tryz.func65, Tryz.ntmps65
  go_wp2_with fail
  rw [← HW1.out]
  have r1 := fun d os => cell_kept (below_regrown W1 d os) s1
  have r2 := fun d os => cell_kept (below_regrown W1 d os) s2
  have r3 := fun d os => cell_kept (below_regrown W1 d os) s3
  have r4 := fun d os => cell_kept (below_regrown W1 d os) s4
  refine wp_region_quiet_below (by kernel_rfl) (by kernel_rfl) ?_
  repeat (go_big_quiet_step ((first | (go_at_call 68; first | exact Calls.regrown_of (HST.out _ (bl2 HB1.out (below_regrown W1 _ _))) | exact Calls.regrown_of (HSZ.out _ (bl2 HB1.out (below_regrown W1 _ _)))) | (go_at_call 108; first | exact Calls.regrown_of (HEB.out _) | exact Calls.regrown_of (HES.out _)))))
  refine wpQuiet_nil ?_
  intro _ hw'
  obtain ⟨⟨dq, osq⟩, hw''⟩ := hw'
  have hbq := below_regrown W1 dq osq
  rw [hw'']

  generalize grow (redrawn W1 dq) osq = W2 at *
  obtain ⟨XP, hXP⟩ : ∃ XP, XP = X1 ++ (⟨#[58]⟩ : ByteArray) ++ X2 ++ X3 ++ X4 := ⟨_, rfl⟩
  rw [← hXP] at HPP ⊢
  have HXP : Hid (XP = bA PL) := HPP
  have HB2 := Hid.mk (bl2 HB1.out hbq)
  have HA2 := Hid.mk (HA1.out.kept hbq)
  clear hw'' hbq r1 r2 r3 r4 s0 s1 s2 s3 s4 s5 s6 s7 s8 hXP dq osq
  obtain ⟨s0, s1, s2, s3, s4, s5, s6, s7, s8⟩ := HA2.out
  simp only at s0 s1 s2 s3 s4 s5 s6 s7 s8
  go_wp2_with fail
  have r5 := fun d os => cell_kept (below_regrown W2 d os) s5
  have r6 := fun d os => cell_kept (below_regrown W2 d os) s6
  refine wp_region_quiet_below (by kernel_rfl) (by kernel_rfl) ?_
  repeat (go_big_quiet_step (((go_at_call 68; first | exact Calls.regrown_of (HMU.out _ (bl2 HB2.out (below_regrown W2 _ _))) | exact Calls.regrown_of (HDI.out _ (bl2 HB2.out (below_regrown W2 _ _)))))))
  refine wpQuiet_nil ?_
  intro _ hw'
  obtain ⟨⟨dq, osq⟩, hw''⟩ := hw'
  have hbq := below_regrown W2 dq osq
  rw [hw'']

  generalize grow (redrawn W2 dq) osq = W3 at *
  obtain ⟨XF, hXF⟩ : ∃ XF, XF = X5 ++ (⟨#[47]⟩ : ByteArray) ++ X6 := ⟨_, rfl⟩
  rw [← hXF] at HFF ⊢
  have HXF : Hid (XF = bA FL) := HFF
  have HB3 := Hid.mk (bl2 HB2.out hbq)
  have HA3 := Hid.mk (HA2.out.kept hbq)
  clear hw'' hbq r5 r6 s0 s1 s2 s3 s4 s5 s6 s7 s8 hXF dq osq
  obtain ⟨s0, s1, s2, s3, s4, s5, s6, s7, s8⟩ := HA3.out
  simp only at s0 s1 s2 s3 s4 s5 s6 s7 s8
  by_cases hky : 0 ≤ ky
  · obtain ⟨XK, hXK⟩ : ∃ X, X = bA (Lib.itoa ky) := ⟨_, rfl⟩
    have HKE := Hid.mk (HKS.out hky)
    rw [← hXK] at HKY HKE
    clear hXK
    go_wp2_with fail
    refine (HKY.out _ HB3.out).mono ?_
    rintro e W4 ⟨rfl, hb4⟩
    have HB4 := Hid.mk (bl2 HB3.out hb4)
    have HA4 := Hid.mk (HA3.out.kept hb4)
    clear hb4
    have HEM : Hid (∀ W, Below W4.heap.size W4 W → W.cell? ⟨w.heap.size, 0, none⟩ = some (.string nm) ∧ W.cell? ⟨w.heap.size, 7, none⟩ = some (.int .i64 ad)) := Hid.mk (fun W hb => ⟨cell_kept hb HA4.out.c0, cell_kept hb HA4.out.c7⟩)
    have HI5 := Hid.mk (HAD.out W4.drew (bl2 HB4.out (bDx W4)))
    have HWD : Hid (([⟨#[115, 105, 103, 110, 97, 108]⟩, nm, XP, XF, XA, XK] : List ByteArray).map (·.data.toList) = WS) := Hid.mk (by
      rw [HWS.out]
      simp only [List.map_cons, List.map_nil]
      rw [HXP.out, HXF.out, HXA.out, HKE.out]
      simp [bA_list])
    clear s0 s1 s2 s3 s4 s5 s6 s7 s8
    go_wp2_with fail
    go_region_held3 (fun W => W.cell? ⟨w.heap.size, 0, none⟩ = some (.string nm) ∧ W.cell? ⟨w.heap.size, 7, none⟩ = some (.int .i64 ad)) (first | exact HEM.out _ (bDx _) | exact HEM.out _ HB5.out | exact HEM.out _ HB6.out | exact HEM.out _ HB7.out) (first
      | (go_at_call 68; with_reducible refine HI5.out.mono ?_; rintro e w5 ⟨rfl, hb5⟩
         have HB5 := Hid.mk (bl2 (bDx W4) hb5)
         have HB6 := Hid.mk (bl2 HB5.out (awB1 w5 (.cells #[.string ⟨#[115, 105, 103, 110, 97, 108]⟩, .string nm, .string XP, .string XF, .string XA, .string XK] 9)))
         have HL6 := Hid.mk (lineOf_any [⟨#[115, 105, 103, 110, 97, 108]⟩, nm, XP, XF, XA, XK] w5.heap.size 6 6 _ rfl (Nat.le_refl _) (six_strs w5 _ _ _ _ _ _) (by simp) (by rw [HWD.out]; exact HWL.out) (by omega))
         rw [HWD.out] at HL6
         clear hb5)
      | (go_at_call 109; with_reducible refine HL6.out.mono ?_; rintro e w7 ⟨rfl, hb7⟩
         have HB7 := Hid.mk (bl2 HB6.out hb7)
         clear hb7))
    go_wp2_with fail
    go_ret
    exact ⟨rfl, bl2 HB4.out HB7.out⟩
  · have hky' : ky < 0 := by omega
    have HKE := Hid.mk (HKN.out hky')
    obtain ⟨W4, hW4⟩ : ∃ W4, W4 = W3 := ⟨_, rfl⟩
    rw [← hW4] at HB3 HA3 s0 s1 s2 s3 s4 s5 s6 s7 s8 ⊢
    clear hW4
    have HB4 := HB3
    have HA4 := HA3
    have HEM : Hid (∀ W, Below W4.heap.size W4 W → W.cell? ⟨w.heap.size, 0, none⟩ = some (.string nm) ∧ W.cell? ⟨w.heap.size, 7, none⟩ = some (.int .i64 ad)) := Hid.mk (fun W hb => ⟨cell_kept hb HA4.out.c0, cell_kept hb HA4.out.c7⟩)
    have HI5 := Hid.mk (HAD.out W4.drew (bl2 HB4.out (bDx W4)))
    have HWD : Hid (([⟨#[115, 105, 103, 110, 97, 108]⟩, nm, XP, XF, XA, ⟨#[45]⟩] : List ByteArray).map (·.data.toList) = WS) := Hid.mk (by
      rw [HWS.out]
      simp only [List.map_cons, List.map_nil]
      rw [HXP.out, HXF.out, HXA.out, HKE.out]
      simp [bA_list])
    go_wp2_with fail
    clear s0 s1 s2 s3 s4 s5 s6 s7 s8
    go_region_held3 (fun W => W.cell? ⟨w.heap.size, 0, none⟩ = some (.string nm) ∧ W.cell? ⟨w.heap.size, 7, none⟩ = some (.int .i64 ad)) (first | exact HEM.out _ (bDx _) | exact HEM.out _ HB5.out | exact HEM.out _ HB6.out | exact HEM.out _ HB7.out) (first
      | (go_at_call 68; with_reducible refine HI5.out.mono ?_; rintro e w5 ⟨rfl, hb5⟩
         have HB5 := Hid.mk (bl2 (bDx W4) hb5)
         have HB6 := Hid.mk (bl2 HB5.out (awB1 w5 (.cells #[.string ⟨#[115, 105, 103, 110, 97, 108]⟩, .string nm, .string XP, .string XF, .string XA, .string ⟨#[45]⟩] 9)))
         have HL6 := Hid.mk (lineOf_any [⟨#[115, 105, 103, 110, 97, 108]⟩, nm, XP, XF, XA, ⟨#[45]⟩] w5.heap.size 6 6 _ rfl (Nat.le_refl _) (six_strs w5 _ _ _ _ _ _) (by simp) (by rw [HWD.out]; exact HWL.out) (by omega))
         rw [HWD.out] at HL6
         clear hb5)
      | (go_at_call 109; with_reducible refine HL6.out.mono ?_; rintro e w7 ⟨rfl, hb7⟩
         have HB7 := Hid.mk (bl2 HB6.out hb7)
         clear hb7))
    go_wp2_with fail
    go_ret
    exact ⟨rfl, bl2 HB4.out HB7.out⟩
end Bw
end Go.Proofs.YtlnkhlifkooohaaGreatDoor
namespace Go.Proofs.YtlnkhlifkooohaaGreatDoor
open Go.ChangeShapes Go.WideShapes Go.ChangeAt Go.RowKit
namespace Bw
open Sm
set_option maxHeartbeats 2000000 in
set_option maxRecDepth 100000 in
theorem indexFuncMs (g : Nat) (lb : Array Value) (eg : ∀ args w, (callFunc g args).run Tryz.prog w = .ok (.enter g args) w) (p : MsV → Bool) (a : Option Addr) (n c : Nat) (l : List MsV) (w : World) (hF : IsMsgs w a n c l)
    (hp : ∀ W x, Below w.heap.size w W → x ∈ l → Calls Tryz.prog g (#[msV x] ++ lb) W fun e w' => e = .returned (.bool (p x)) ∧ Below W.heap.size W w') :
    Calls Tryz.prog 147 #[.slice a n c, .func (.func g) #[] lb] w fun e w' => e = .returned (.int .i64 (idxK (fun i => p (l.getD i noM)) n)) ∧ Below w.heap.size w w' := by
  have HF := Hid.mk hF
  have HP := Hid.mk hp
  have hn63 : n ≤ 9223372036854775807 := by have h1 := hF.row.le; have h2 := hF.row.max; unfold maxLen at h2; omega
  clear hF hp
  go_enter Tryz.func147, Tryz.ntmps147
  go_wp2_with fail
  go_loopw [8] (fun i wr => ∃ k : Nat, k ≤ n ∧ i = .int .i64 k ∧ Hid (∀ j, j < k → p (l.getD j noM) = false) ∧ Hid (Below w.heap.size w wr)) (fun i _ => n - (intOf i).toNat)
  case atStart => exact ⟨0, Nat.zero_le _, rfl, Hid.mk (fun j hj => absurd hj (Nat.not_lt_zero _)), Hid.mk (Below.refl _ _)⟩
  case round =>
    obtain ⟨k, hk, rfl, HA, HB⟩ := hrel
    by_cases hlt : k < n
    · have hlt' : (k : Int) < (n : Int) := by omega
      obtain ⟨x, hx⟩ := HF.out.row.some hlt
      subst hx
      have hAt := (HF.out.kept HB.out).at hlt
      have hcall := HP.out wr _ HB.out (HF.out.mem hlt)
      have HY : Hid (∃ y, y = l.getD k noM) := Hid.mk ⟨_, rfl⟩
      obtain ⟨y, hy⟩ := HY.out
      rw [← hy] at hAt hcall
      have HYY := Hid.mk hy
      clear hy HY
      cases hq : p y with
      | true =>
        rw [hq] at hcall
        have HQ := Hid.mk hq
        clear hq
        obtain ⟨⟨mid, mlo, mnm, msz, mch, msg⟩, ma, mn, mcap⟩ := y
        unfold msV at hcall
        obtain ⟨c0, c1, c2, c3, c4, c5⟩ := hAt
        simp only at hcall c0 c1 c2 c3 c4 c5
        have HC := Hid.mk hcall
        clear hcall
        go_wp2_with (go_at_fn g; refine HC.out.mono ?_; rintro e w1 ⟨rfl, hb1⟩)
        have HB1 := Hid.mk (bl2 HB.out hb1)
        clear hb1
        go_ret
        exact ⟨by rw [idxK_hit HA.out (by show p (l.getD k noM) = true; rw [← HYY.out]; exact HQ.out) hlt]; rfl, HB1.out⟩
      | false =>
        rw [hq] at hcall
        have HQ := Hid.mk hq
        clear hq
        obtain ⟨⟨mid, mlo, mnm, msz, mch, msg⟩, ma, mn, mcap⟩ := y
        unfold msV at hcall
        obtain ⟨c0, c1, c2, c3, c4, c5⟩ := hAt
        simp only at hcall c0 c1 c2 c3 c4 c5
        have HC := Hid.mk hcall
        clear hcall
        go_wp2_with (go_at_fn g; refine HC.out.mono ?_; rintro e w1 ⟨rfl, hb1⟩)
        have HB1 := Hid.mk (bl2 HB.out hb1)
        clear hb1
        go_roundw
        case rel =>
          refine ⟨k + 1, by omega, by go_num, Hid.mk fun j hj => ?_, HB1⟩
          by_cases e : j = k
          · subst e; rw [← HYY.out]; exact HQ.out
          · exact HA.out j (by omega)
        case measure => simp [intOf]; omega
    · have e : k = n := by omega
      subst e
      go_wp2_with fail
      go_ret
      exact ⟨by rw [idxK_none HA.out]; rfl, HB.out⟩
end Bw
end Go.Proofs.YtlnkhlifkooohaaGreatDoor
namespace Go.Proofs.YtlnkhlifkooohaaGreatDoor
open Go.ChangeShapes Go.WideShapes Go.ChangeAt Go.RowKit
namespace Bw
open Sm
set_option maxHeartbeats 2000000 in
theorem containsFuncMs (g : Nat) (lb : Array Value) (eg : ∀ args w, (callFunc g args).run Tryz.prog w = .ok (.enter g args) w) (p : MsV → Bool) (a : Option Addr) (n c : Nat) (l : List MsV) (w : World) (hF : IsMsgs w a n c l)
    (hp : ∀ W x, Below w.heap.size w W → x ∈ l → Calls Tryz.prog g (#[msV x] ++ lb) W fun e w' => e = .returned (.bool (p x)) ∧ Below W.heap.size W w') :
    Calls Tryz.prog 106 #[.slice a n c, .func (.func g) #[] lb] w fun e w' => e = .returned (.bool (l.any p)) ∧ Below w.heap.size w w' := by
  have HI := Hid.mk (indexFuncMs g lb eg p a n c l w hF hp)
  have HR := Hid.mk (idx_any p noM (l := l) (n := n) hF.row.len)
  clear hF hp eg
  generalize idxK (fun i => p (l.getD i noM)) n = r at *
  go_enter Tryz.func106, Tryz.ntmps106
  go_wp2_with fail
  refine HI.out.mono ?_
  rintro e w1 ⟨rfl, hb⟩
  have HB := Hid.mk hb
  clear hb
  go_wp2_with fail
  go_ret
  exact ⟨by rw [← HR.out]; rfl, HB.out⟩
end Bw
end Go.Proofs.YtlnkhlifkooohaaGreatDoor
namespace Go.Proofs.YtlnkhlifkooohaaGreatDoor
open Go.ChangeShapes Go.WideShapes Go.ChangeAt Go.RowKit
namespace Bw
open Sm
/-- have two one name, or one number? -/
def clB (a b : Msg) : Bool := decide (a.nm = b.nm) || ((a.id == b.id) && (a.lo == b.lo))
def allE (l : List MsV) (i : Nat) : Int := if chkM (l.getD i noM).m = 0 then (if ((l.take i).any fun a => clB a.m (l.getD i noM).m) = true then 9 else 0) else chkM (l.getD i noM).m
def chkA (l : List MsV) : Int := if 20 < l.length then 2 else firstE (allE l) l.length
theorem enter_clash : ∀ args w, (callFunc 105 args).run Tryz.prog w = .ok (.enter 105 args) w := enters_of Tryz.func105 (by kernel_rfl) rfl
set_option maxHeartbeats 4000000 in
theorem clash_any (a v : MsV) (g : Nat) (w : World) (hg : MsAt w g v) :
    Calls Tryz.prog 105 #[msV a, .pointer (some ⟨g, 0, none⟩)] w fun e w' => e = .returned (.bool (clB a.m v.m)) ∧ Below w.heap.size w w' := by
  have HB := Hid.mk (ms_box w a)
  have hR : clB a.m v.m = (decide (a.m.nm = v.m.nm) || ((a.m.id == v.m.id) && (a.m.lo == v.m.lo))) := rfl
  rw [hR]
  have hg1 := hg.kept HB.out
  clear hR hg
  obtain ⟨⟨mid, mlo, mnm, size, mch, sigs⟩, ma, mn, mcap⟩ := a
  obtain ⟨⟨mid', mlo', mnm', size', mch', sigs'⟩, ma', mn', mcap'⟩ := v
  unfold msC at HB hg1
  unfold msV
  simp only at HB hg1 ⊢
  obtain ⟨c0, c1, c2, c3, c4, c5⟩ := hg1
  simp only at c0 c1 c2 c3 c4 c5
  by_cases h0 : mnm = mnm'
  · have e0 := str_yes h0
    rw [show decide (mnm = mnm') = true by simpa using h0]
    clear h0
    go_enter Tryz.func105, Tryz.ntmps105
    go_wp2_with fail
    go_ret
    exact ⟨rfl, HB.out⟩
  · have e0 := str_no h0
    rw [show decide (mnm = mnm') = false by simpa using h0]
    clear h0
    by_cases h1 : mid = mid'
    · subst h1
      rw [show (mid == mid) = true by simp]
      go_enter Tryz.func105, Tryz.ntmps105
      go_wp2_with fail
      go_ret
      exact ⟨ret_b (by simp), HB.out⟩
    · have e1 : (mid == mid') = false := by simpa using h1
      rw [e1]
      clear h1
      go_enter Tryz.func105, Tryz.ntmps105
      go_wp2_with fail
      go_ret
      exact ⟨rfl, HB.out⟩
set_option maxHeartbeats 16000000 in
set_option maxRecDepth 100000 in
theorem checkAll_any (a : Option Addr) (n c : Nat) (l : List MsV) (w : World) (hF : IsMsgs w a n c l) (hS : SizesAt w) :
    Calls Tryz.prog 62 #[.slice a n c] w fun e w' => e = .returned (.int .i64 (chkA l)) ∧ Below w.heap.size w w' := by
  have hlen := hF.row.len
  have hn63 : (n : Int) ≤ 9223372036854775807 := by have h1 := hF.row.le; have h2 := hF.row.max; unfold maxLen at h2; omega
  have HF := Hid.mk hF
  have hR : chkA l = if 20 < n then 2 else firstE (allE l) n := by unfold chkA; rw [hlen]
  rw [hR]
  have HCK := Hid.mk (fun i (hi : i < n) W (hb : Below w.heap.size w W) => mcheck_any (l.getD i noM) W ((hF.each _ (hF.mem hi)).kept hb) (hS.kept hb))
  have HCL := Hid.mk (fun i (hi : i ≤ n) g v W (hb : Below w.heap.size w W) (hg : MsAt W g v) => containsFuncMs 105 #[.pointer (some ⟨g, 0, none⟩)] enter_clash (fun x => clB x.m v.m) a i c (l.take i) W ((hF.kept hb).take hi) (fun W' x hb' _ => clash_any x v g W' (hg.kept hb')))
  have HG : Hid (∀ i, allE l i = if chkM (l.getD i noM).m = 0 then (if ((l.take i).any fun a => clB a.m (l.getD i noM).m) = true then 9 else 0) else chkM (l.getD i noM).m) := Hid.mk (fun i => rfl)
  generalize allE l = G at *
  clear hR hF hS hlen
  by_cases h20 : 20 < n
  · rw [if_pos h20]
    have h20' : (20 : Int) < (n : Int) := by omega
    clear h20
    go_enter Tryz.func62, Tryz.ntmps62
    go_wp2_with fail
    go_ret
    exact ⟨rfl, Below.refl _ _⟩
  · rw [if_neg h20]
    have h20' : (n : Int) ≤ 20 := by omega
    clear h20
    go_enter Tryz.func62, Tryz.ntmps62
    go_wp2_with fail
    go_loopw [12] (fun i wr => ∃ k : Nat, k ≤ n ∧ i = .int .i64 k ∧ Hid (firstE G k = 0) ∧ Hid (Below w.heap.size w wr)) (fun i _ => n - (intOf i).toNat)
    case atStart => exact ⟨0, Nat.zero_le _, rfl, Hid.mk rfl, Hid.mk (Below.refl _ _)⟩
    case round =>
      obtain ⟨k, hk, rfl, HF0, HB⟩ := hrel
      by_cases hlt : k < n
      · have hlt' : (k : Int) < (n : Int) := by omega
        obtain ⟨x, hx⟩ := HF.out.row.some hlt
        subst hx
        have hAt := (HF.out.kept HB.out).at hlt
        have HBX := Hid.mk (ms_box wr (l.getD k noM))
        have HBA := Hid.mk (MsAt.box wr (l.getD k noM))
        have HC := Hid.mk (HCK.out k hlt)
        have HL := Hid.mk (fun g W hb hg => HCL.out k hk g (l.getD k noM) W hb hg)
        have hGk := HG.out k
        generalize (l.take k).any (fun a => clB a.m (l.getD k noM).m) = AN at *
        generalize l.getD k noM = v at *
        generalize chkM v.m = E at *
        obtain ⟨⟨mid, mlo, mnm, size, mch, sigs⟩, ma, mn, mcap⟩ := v
        obtain ⟨c0, c1, c2, c3, c4, c5⟩ := hAt
        unfold msC at HBX HBA
        unfold msV at HC
        simp only at HBX HBA HC HL c0 c1 c2 c3 c4 c5
        have HGk := Hid.mk hGk
        have hle := HF.out.row.le
        have hkc : k ≤ c := by omega
        have hkc' : (k : Int) ≤ (c : Int) := by omega
        clear hGk hle
        by_cases hE : E = 0
        · subst hE
          have HG2 : Hid (G k = if AN = true then 9 else 0) := Hid.mk (by
            have h9 := HGk.out
            simp only [if_true] at h9
            exact h9)
          clear HGk
          go_wp2_with fail
          refine (HC.out _ (bl2 HB.out HBX.out)).mono ?_
          rintro e w1 ⟨rfl, hb1⟩
          have HB1 := Hid.mk (bl2 HB.out (bl2 HBX.out hb1))
          have HA1 := Hid.mk (HBA.out.kept hb1)
          clear hb1 c0 c1 c2 c3 c4 c5
          go_wp2_with fail
          refine (HL.out _ _ HB1.out HA1.out).mono ?_
          rintro e w2 ⟨rfl, hb2⟩
          have HB2 := Hid.mk (bl2 HB1.out hb2)
          clear hb2
          cases AN with
          | true =>
            go_wp2_with fail
            go_ret
            exact ⟨by rw [firstE_hit HF0.out (by rw [HG2.out]; decide) hlt, HG2.out]; rfl, HB2.out⟩
          | false =>
            go_wp2_with fail
            go_roundw
            case rel => exact ⟨k + 1, by omega, by go_num, Hid.mk (firstE_step HF0.out (by rw [HG2.out]; rfl)), HB2⟩
            case measure => simp [intOf]; omega
        · have hne : (E != 0) = true := by simpa using hE
          have HV : Hid (G k = E) := Hid.mk (by rw [HGk.out, if_neg hE])
          have HE := Hid.mk hE
          clear hE HGk
          go_wp2_with fail
          refine (HC.out _ (bl2 HB.out HBX.out)).mono ?_
          rintro e w1 ⟨rfl, hb1⟩
          have HB1 := Hid.mk (bl2 HB.out (bl2 HBX.out hb1))
          clear hb1
          go_wp2_with fail
          go_ret
          exact ⟨by rw [firstE_hit HF0.out (by rw [HV.out]; exact HE.out) hlt, HV.out]; rfl, HB1.out⟩
      · have e : k = n := by omega
        subst e
        go_wp2_with fail
        go_ret
        exact ⟨by rw [HF0.out]; rfl, HB.out⟩
end Bw
end Go.Proofs.YtlnkhlifkooohaaGreatDoor
namespace Go.Proofs.YtlnkhlifkooohaaGreatDoor
open Go.ChangeShapes Go.WideShapes Go.ChangeAt Go.RowKit Go.Sort
namespace Bw
open Sm
theorem chkA_ok {l : List MsV} (h : chkA l = 0) : l.length ≤ 20 ∧ ∀ v ∈ l, chkM v.m = 0 := by
  unfold chkA at h
  split at h
  · omega
  · rename_i h1
    refine ⟨by omega, fun v hv => ?_⟩
    obtain ⟨i, hi, rfl⟩ := List.getElem_of_mem hv
    have h2 := firstE_zero h i hi
    unfold allE at h2
    rw [getD_at hi] at h2
    split at h2
    · assumption
    · rename_i h3; exact absurd h2 h3
def msL (l : List MsV) : List Msg := l.map MsV.m
def printE (l : List MsV) : Int := if chkA l ≠ 0 then chkA l else if 4000 < (textT (msL l)).length then 2 else 0
def printS (l : List MsV) : List UInt8 := if printE l = 0 then textT (msL l) else []
theorem text_take (l : List MsV) {k : Nat} (hk : k < l.length) : textT (msL (l.take (k + 1))) = textT (msL (l.take k)) ++ (lineL (wordsM (l.getD k noM).m) ++ sigsT (l.getD k noM).m.sigs) := by
  unfold msL
  rw [List.take_add_one, List.getElem?_eq_getElem hk, getD_at hk]
  simp only [Option.toList, List.map_append, List.map_cons, List.map_nil]
  rw [textT_snoc]
  rfl
theorem sigs_take (l : List Sig) {k : Nat} (hk : k < l.length) : sigsT (l.take (k + 1)) = sigsT (l.take k) ++ lineL (wordsS (l.getD k noS)) := by
  rw [List.take_add_one, List.getElem?_eq_getElem hk, getD_at hk]
  simp only [Option.toList]
  rw [sigsT_snoc]
theorem bA_eq (l : List UInt8) : (⟨l.toArray⟩ : ByteArray) = bA l := rfl
set_option maxHeartbeats 1000000 in
theorem print_bad (a : Option Addr) (n c : Nat) (l : List MsV) (w : World) (hF : IsMsgs w a n c l) (hS : SizesAt w) (hE : chkA l ≠ 0) :
    Calls Tryz.prog 20 #[.slice a n c] w fun e w' => e = .returned (.tuple #[.string (bA (printS l)), .int .i64 (printE l)]) ∧ Below w.heap.size w w' := by
  have HC := Hid.mk (checkAll_any a n c l w hF hS)
  have HR : Hid (printE l = chkA l) := Hid.mk (by unfold printE; rw [if_pos hE])
  have HZ : Hid (printS l = []) := Hid.mk (by unfold printS; rw [HR.out, if_neg hE])
  rw [HR.out, HZ.out]
  have hne : (chkA l != 0) = true := by simpa using hE
  clear hF hS hE HR HZ
  generalize chkA l = E at *
  go_enter Tryz.func20, Tryz.ntmps20
  go_wp2_with fail
  refine HC.out.mono ?_
  rintro e w1 ⟨rfl, hb1⟩
  go_wp2_with fail
  go_ret2
  exact ⟨rfl, hb1⟩
set_option maxHeartbeats 16000000 in
set_option maxRecDepth 100000 in
theorem print_ok (a : Option Addr) (n c : Nat) (l : List MsV) (w : World) (hF : IsMsgs w a n c l) (hS : SizesAt w) (hT : TxT w) (hE : chkA l = 0) :
    Calls Tryz.prog 20 #[.slice a n c] w fun e w' => e = .returned (.tuple #[.string (bA (printS l)), .int .i64 (printE l)]) ∧ Below w.heap.size w w' := by
  obtain ⟨hlen20, hall⟩ := chkA_ok hE
  have hC := checkAll_any a n c l w hF hS
  rw [hE] at hC
  have HC := Hid.mk hC
  have hlen : l.length = n := hF.row.len
  have HMB : Hid (∀ k, k < n → MB (l.getD k noM).m) := Hid.mk (fun k hk => by
    have h1 : k < l.length := by omega
    rw [getD_at h1]
    exact mb_of (chkM_ok (hall _ (List.getElem_mem h1))))
  have HTL : Hid (∀ k, (textT (msL (l.take k))).length ≤ 42000) := Hid.mk (fun k => by
    have h1 := textT_len (l := msL (l.take k)) (fun m hm => by
      unfold msL at hm
      rw [List.mem_map] at hm
      obtain ⟨v, hv, rfl⟩ := hm
      exact mb_of (chkM_ok (hall v (List.mem_of_mem_take hv))))
    have h2 : (msL (l.take k)).length ≤ 20 := by unfold msL; simp; omega
    omega)
  have HTK : Hid (∀ k, k < n → textT (msL (l.take (k + 1))) = textT (msL (l.take k)) ++ (lineL (wordsM (l.getD k noM).m) ++ sigsT (l.getD k noM).m.sigs)) := Hid.mk (fun k hk => text_take l (by omega))
  have HT0 : Hid (textT (msL (l.take 0)) = []) := Hid.mk (by simp [msL, textT])
  have HTN : Hid (textT (msL (l.take n)) = textT (msL l)) := Hid.mk (by rw [← hlen, List.take_length])
  have HPE : Hid (printE l = if 4000 < (textT (msL l)).length then 2 else 0) := Hid.mk (by unfold printE; rw [if_neg (by rw [hE]; simp)])
  have HPS : Hid (printS l = if printE l = 0 then textT (msL l) else []) := Hid.mk rfl
  have HF := Hid.mk (fun W (h : Below w.heap.size w W) => hF.kept h)
  have HTX := Hid.mk (fun W (h : Below w.heap.size w W) => hT.kept h)
  have hn20 : (n : Int) ≤ 20 := by omega
  clear hF hS hT hE hC hall hlen20 hlen
  generalize printE l = PE at *
  generalize printS l = PS at *
  generalize textT (msL l) = TT at *
  generalize hTK : (fun k => textT (msL (l.take k))) = TK at *
  have HTKe : Hid (∀ k, textT (msL (l.take k)) = TK k) := Hid.mk (fun k => by rw [← hTK])
  clear hTK
  simp only [HTKe.out] at HTL HTK HT0 HTN
  clear HTKe
  go_enter Tryz.func20, Tryz.ntmps20
  go_wp2_with fail
  refine HC.out.mono ?_
  rintro e W1 ⟨rfl, hb1⟩
  have HB1 := Hid.mk hb1
  have HBF := Hid.mk (Lib.fresh_isBuilder 103 5 W1)
  have HBA : Hid (Below W1.heap.size W1 (W1.alloc (.cells #[.pointer none, .slice none 0 0] 103))) := Hid.mk (awB1 W1 _)
  clear hb1 HC
  go_wp2_with fail
  obtain ⟨W2, hW2⟩ : ∃ W2, W2 = W1.alloc (.cells #[.pointer none, .slice none 0 0] 103) := ⟨_, rfl⟩
  rw [← hW2] at HBF HBA ⊢
  obtain ⟨b, hb⟩ : ∃ b, b = W1.heap.size := ⟨_, rfl⟩
  rw [← hb] at HBF HBA ⊢
  have HBB : Hid (b = W1.heap.size) := Hid.mk hb
  clear hW2 hb
  go_loopw [17] (fun i wr => ∃ k : Nat, k ≤ n ∧ i = .int .i64 k ∧ Hid (Lib.IsBuilder 103 5 b b (Lib.byteCells (TK k)) wr) ∧ Hid (Below b W1 wr) ∧ Hid (b ≤ wr.heap.size)) (fun i _ => n - (intOf i).toNat)
  case atStart => exact ⟨0, Nat.zero_le _, rfl, by rw [HT0.out]; exact HBF, HBA, Hid.mk (by have := HBA.out.size; rw [HBB.out]; exact this)⟩
  case round =>
    obtain ⟨k, hk, rfl, HBD, HB, HSZ⟩ := hrel
    have HBW : Hid (Below w.heap.size w wr) := Hid.mk (by have h := HB.out; rw [HBB.out] at h; exact bl2 HB1.out h)
    by_cases hlt : k < n
    · have hlt' : (k : Int) < (n : Int) := by omega
      have hRow := HF.out _ HBW.out
      obtain ⟨x, hx⟩ := hRow.row.some hlt
      subst hx
      have hAt := hRow.at hlt
      have HMI := Hid.mk (hRow.each _ (hRow.mem hlt))
      have HSRW := Hid.mk (fun W (h : Below w.heap.size w W) => ((HF.out W h).each _ (hRow.mem hlt)).row)
      have HMk := Hid.mk (HMB.out k hlt)
      have HTk := Hid.mk (HTK.out k hlt)
      have HLk := Hid.mk (HTL.out (k + 1))
      have HTLk := Hid.mk (HTL.out k)
      generalize l.getD k noM = V at *
      have HAL := Hid.mk (awB1 wr (msC V))
      have HMA := Hid.mk (MsAt.box wr V)
      have HHE := Hid.mk (heap_alloc_new wr (msC V))
      have HML := Hid.mk (messageLine_any V _ (HMI.out.kept HAL.out) HMk.out (HTX.out _ (bl2 HBW.out HAL.out)))
      have HBD1 := Hid.mk (bld_kept HBD.out HAL.out)
      have HSIG := Hid.mk HMk.out.sb
      have HLM := Hid.mk (lineM_len HMk.out)
      obtain ⟨XL, hXL⟩ : ∃ XL, XL = lineL (wordsM V.m) := ⟨_, rfl⟩
      rw [← hXL] at HML HTk HLM
      clear hXL
      have HSL : Hid (V.m.sigs.length = V.n) := Hid.mk HMI.out.row.len
      have HM16 : Hid (V.n ≤ 16) := Hid.mk (by have h1 := HMk.out.many; rw [HSL.out] at h1; exact h1)
      clear HMI HMk hRow
      obtain ⟨⟨mid, mlo, mnm, size, mch, sigs⟩, ma, mn, mcap⟩ := V
      unfold msC at HAL HMA HHE HML HBD1
      unfold msV at HML
      obtain ⟨c0, c1, c2, c3, c4, c5⟩ := hAt
      obtain ⟨m0, m1, m2, m3, m4, m5⟩ := HMA.out
      simp only at c0 c1 c2 c3 c4 c5 m0 m1 m2 m3 m4 m5 HAL HMA HHE HML HBD1 HTk HSIG HSL HSRW HM16
      obtain ⟨W3, hW3⟩ : ∃ W3, W3 = wr.alloc (.cells #[.int .i64 mid, .bool mlo, .string mnm, .int .i64 size, .int .i64 mch, .slice ma mn mcap] 24) := ⟨_, rfl⟩
      rw [← hW3] at HAL HMA HHE HML HBD1 m0 m1 m2 m3 m4 m5
      have HW3 := Hid.mk hW3
      clear hW3
      go_wp2_with fail
      rw [← HW3.out]
      refine HML.out.mono ?_
      rintro e w4 ⟨rfl, hb4⟩
      have HB4 := Hid.mk (bl2 HAL.out hb4)
      have HH4 := Hid.mk ((hb4.block _ (lt_of_block HHE.out)).trans HHE.out)
      have HSZ4 : Hid (b ≤ w4.heap.size) := Hid.mk (by have := HB4.out.size; have := HSZ.out; omega)
      have HWR := Hid.mk (bwrite_any b b _ (bA XL) w4 (bld_kept HBD1.out hb4) (by rw [bytes_len, bA_size]; have := HLk.out; rw [HTk.out, List.length_append, List.length_append] at this; omega) HSZ4.out)
      have HNE : Hid (wr.heap.size ≠ b) := Hid.mk (by
        intro e
        have h1 : b < wr.heap.size := by
          rcases HBD.out with h | h
          · exact h.lt
          · exact h.lt
        omega)
      clear hb4 c0 c1 c2 c3 c4 c5 m0 m1 m2 m3 m4 m5 HML
      go_wp2_with fail
      refine HWR.out.mono ?_
      rintro e w5 ⟨rfl, HBD5, HB5, HO5⟩
      have HH5 := Hid.mk ((HO5.out _ _ _ _ HH4.out (by decide) HNE.out).trans HH4.out)
      have d5 := cell_of_row _ _ 5 _ _ _ HH5.out
      simp only [List.getElem?_toArray, List.getElem?_cons_zero, List.getElem?_cons_succ] at d5
      have hBD5 := HBD5.out
      rw [show Lib.strCells (bA XL) = Lib.byteCells XL from str_bytes XL, ← bytes_app] at hBD5
      have HBD6 := Hid.mk hBD5
      have HB6 : Hid (Below b W1 w5) := Hid.mk ((HB.out.trans ⟨HB4.out.os, HB4.out.tape, HB4.out.output, HB4.out.size, fun k hk => HB4.out.block k (by have := HSZ.out; omega)⟩).trans HB5.out)
      have HSZ5 : Hid (b ≤ w5.heap.size) := Hid.mk (by have := HB5.out.size; have := HSZ4.out; omega)
      clear hBD5 HWR HBD5
      go_wp2_with fail
      clear d5 HBD HBD1
      go_loopw [27] (fun j wy => ∃ q : Nat, q ≤ mn ∧ j = .int .i64 q ∧ Hid (Lib.IsBuilder 103 5 b b (Lib.byteCells (TK k ++ XL ++ sigsT (sigs.take q))) wy) ∧ Hid (Below b W1 wy) ∧ Hid (b ≤ wy.heap.size)) (fun j _ => mn - (intOf j).toNat)
      case atStart => exact ⟨0, Nat.zero_le _, rfl, by simpa [sigsT] using HBD6, HB6, HSZ5⟩
      case round =>
        obtain ⟨q, hq, rfl, HBDq, HBq, HSZq⟩ := hrel
        have hmn : (mn : Int) ≤ 16 := by have := HM16.out; omega
        have HBWq : Hid (Below w.heap.size w wr) := Hid.mk (by have h := HBq.out; rw [HBB.out] at h; exact bl2 HB1.out h)
        by_cases hql : q < mn
        · have hql' : (q : Int) < (mn : Int) := by omega
          have hSRq := HSRW.out _ HBWq.out
          obtain ⟨y, hy⟩ := hSRq.some hql
          subst hy
          have hSg := hSRq.at hql
          have HSB := Hid.mk (HSIG.out _ (hSRq.mem hql))
          have HTq : Hid (sigsT (sigs.take (q + 1)) = sigsT (sigs.take q) ++ lineL (wordsS (sigs.getD q noS))) := Hid.mk (sigs_take sigs (by rw [HSL.out]; exact hql))
          have HQL : Hid ((sigsT (sigs.take q)).length ≤ 121 * mn) := Hid.mk (by
            have h1 := sigsT_len (l := sigs.take q) (fun s hs => HSIG.out s (List.mem_of_mem_take hs))
            have h2 : (sigs.take q).length ≤ mn := by rw [List.length_take]; omega
            exact Nat.le_trans h1 (Nat.mul_le_mul_left _ h2))
          generalize sigs.getD q noS = SK at *
          have HBX := Hid.mk (sg_box wr SK)
          have HSL2 := Hid.mk (signalLine_any SK _ HSB.out (HTX.out _ (bl2 HBWq.out HBX.out)))
          have HBD7 := Hid.mk (bld_kept HBDq.out HBX.out)
          have HLS := Hid.mk (lineS_len HSB.out)
          obtain ⟨XS, hXS⟩ : ∃ XS, XS = lineL (wordsS SK) := ⟨_, rfl⟩
          rw [← hXS] at HSL2 HTq HLS
          clear hXS hSRq
          have HSAT := Hid.mk (SgAt.box wr SK)
          obtain ⟨nm, st, sz, bk, sg, mu, di, ad, ky⟩ := SK
          unfold sgC at HBX HSL2 HBD7 HSAT
          unfold sgV at HSL2
          obtain ⟨s0, s1, s2, s3, s4, s5, s6, s7, s8⟩ := hSg
          obtain ⟨t0, t1, t2, t3, t4, t5, t6, t7, t8⟩ := HSAT.out
          simp only at s0 s1 s2 s3 s4 s5 s6 s7 s8 t0 t1 t2 t3 t4 t5 t6 t7 t8 HBX HSL2 HBD7
          obtain ⟨W6, hW6⟩ : ∃ W6, W6 = wr.alloc (.cells #[.string nm, .int .i64 st, .int .i64 sz, .bool bk, .bool sg, .int .i64 mu, .int .i64 di, .int .i64 ad, .int .i64 ky] 42) := ⟨_, rfl⟩
          rw [← hW6] at HBX HSL2 HBD7
          have HW6 := Hid.mk hW6
          clear hW6
          go_wp2_with fail
          rw [← HW6.out]
          refine HSL2.out.mono ?_
          rintro e w7 ⟨rfl, hb7⟩
          have HB7 := Hid.mk (bl2 HBX.out hb7)
          have HSZ7 : Hid (b ≤ w7.heap.size) := Hid.mk (by have := HB7.out.size; have := HSZq.out; omega)
          have HWR := Hid.mk (bwrite_any b b _ (bA XS) w7 (bld_kept HBD7.out hb7) (by rw [bytes_len, bA_size, List.length_append, List.length_append]; have := HTLk.out; have := HLM.out; have := HQL.out; have := HLS.out; have := HM16.out; omega) HSZ7.out)
          clear hb7 s0 s1 s2 s3 s4 s5 s6 s7 s8 t0 t1 t2 t3 t4 t5 t6 t7 t8 HSL2
          go_wp2_with fail
          refine HWR.out.mono ?_
          rintro e w8 ⟨rfl, HBD8, HB8, HO8⟩
          have hBD8 := HBD8.out
          rw [show Lib.strCells (bA XS) = Lib.byteCells XS from str_bytes XS, ← bytes_app, List.append_assoc (TK k ++ XL), ← HTq.out] at hBD8
          have HBD9 := Hid.mk hBD8
          have HB9 : Hid (Below b W1 w8) := Hid.mk ((HBq.out.trans ⟨HB7.out.os, HB7.out.tape, HB7.out.output, HB7.out.size, fun k hk => HB7.out.block k (by have := HSZq.out; omega)⟩).trans HB8.out)
          have HSZ9 : Hid (b ≤ w8.heap.size) := Hid.mk (by have := HB8.out.size; have := HSZ7.out; omega)
          clear hBD8 HWR HBD8 HO8
          go_wp2_with fail
          go_roundw
          case rel => exact ⟨q + 1, by omega, by go_num, HBD9, HB9, HSZ9⟩
          case measure => simp [intOf]; omega
        · have e : q = mn := by omega
          subst e
          have hBDe := HBDq.out
          rw [List.take_of_length_le (by rw [HSL.out]; exact Nat.le_refl _), List.append_assoc, ← HTk.out] at hBDe
          have HBDe := Hid.mk hBDe
          clear hBDe
          go_wp2_with fail
          go_roundw
          case rel => exact ⟨k + 1, by omega, by go_num, HBDe, HBq, HSZq⟩
          case measure => simp [intOf]; omega
    · have e : k = n := by omega
      subst e
      have hBDe := HBD.out
      rw [HTN.out] at hBDe
      have HLN := Hid.mk (Tryz.Builder_Len b b _ wr hBDe)
      rw [bytes_len] at HLN
      have HST := Hid.mk (Tryz.Builder_String_any b b TT wr hBDe HSZ.out)
      rw [bA_eq] at HST
      have hTT : TT.length ≤ 42000 := by rw [← HTN.out]; exact HTL.out k
      have hTT' : (TT.length : Int) ≤ 42000 := by omega
      clear hBDe
      by_cases hbig : 4000 < TT.length
      · have hbig' : (4000 : Int) < (TT.length : Int) := by omega
        have HP1 : Hid (PE = 2) := Hid.mk (by rw [HPE.out, if_pos hbig])
        have HP2 : Hid (PS = []) := Hid.mk (by rw [HPS.out, HP1.out, if_neg (by decide)])
        go_wp2_with fail
        refine HLN.out.mono ?_
        rintro e w2 ⟨rfl, hw2⟩
        subst hw2
        go_wp2_with fail
        go_ret2
        exact ⟨by rw [HP1.out, HP2.out]; rfl, HBW.out⟩
      · have hbig' : ¬ ((4000 : Int) < (TT.length : Int)) := by omega
        have HP1 : Hid (PE = 0) := Hid.mk (by rw [HPE.out, if_neg hbig])
        have HP2 : Hid (PS = TT) := Hid.mk (by rw [HPS.out, HP1.out, if_pos rfl])
        go_wp2_with fail
        refine HLN.out.mono ?_
        rintro e w2 ⟨rfl, hw2⟩
        subst hw2
        go_wp2_with fail
        refine HST.out.mono ?_
        rintro e w3 ⟨rfl, hb3⟩
        have HB3 : Hid (Below w.heap.size w w3) := Hid.mk (by have h := HB.out.trans hb3; rw [HBB.out] at h; exact bl2 HB1.out h)
        clear hb3
        go_wp2_with fail
        go_ret2
        exact ⟨by rw [HP1.out, HP2.out]; rfl, HB3.out⟩
theorem print_any (a : Option Addr) (n c : Nat) (l : List MsV) (w : World) (hF : IsMsgs w a n c l) (hS : SizesAt w) (hT : TxT w) :
    Calls Tryz.prog 20 #[.slice a n c] w fun e w' => e = .returned (.tuple #[.string (bA (printS l)), .int .i64 (printE l)]) ∧ Below w.heap.size w w' := by
  by_cases hE : chkA l = 0
  · exact print_ok a n c l w hF hS hT hE
  · exact print_bad a n c l w hF hS hE
end Bw
end Go.Proofs.YtlnkhlifkooohaaGreatDoor
namespace Go.Proofs.YtlnkhlifkooohaaGreatDoor
open Go.ChangeShapes Go.WideShapes Go.ChangeAt Go.RowKit Go.Sort
namespace Bw
open Sm
def xL (b : Bool) : List UInt8 := if b = true then [120] else []
theorem mLine (m : Msg) : lineL (wordsM m) = [109, 101, 115, 115, 97, 103, 101, 32] ++ m.nm.data.toList ++ [32] ++ Lib.itoa m.id ++ xL m.lo ++ [32] ++ Lib.itoa m.size ++ [32] ++ chL m ++ [10] := by
  unfold lineL wordsM lxL xL
  simp [Lib.join]
theorem sLine (s : Sig) : lineL (wordsS s) = [115, 105, 103, 110, 97, 108, 32] ++ s.nm.data.toList ++ [32] ++ Lib.itoa s.st ++ [58] ++ Lib.itoa s.sz ++ (bkL s ++ sgL s) ++ [32] ++ Lib.itoa s.mu ++ [47] ++ Lib.itoa s.di ++ [32] ++ Lib.itoa s.ad ++ [32] ++ kyT s ++ [10] := by
  unfold lineL wordsS plL faL
  simp [Lib.join]
theorem ba_lit (l : List UInt8) : (⟨l.toArray⟩ : ByteArray) = bA l := rfl
set_option maxHeartbeats 32000000 in
set_option maxRecDepth 100000 in
theorem textOf_any (a : Option Addr) (n c : Nat) (l : List MsV) (w : World) (hF : IsMsgs w a n c l) (hn20 : n ≤ 20) (hMB : ∀ k, k < n → MB (l.getD k noM).m) (hT : TxT w) :
    Calls Tryz.prog 23 #[.slice a n c] w fun e w' => e = .returned (.string (bA (textT (msL l)))) ∧ Below w.heap.size w w' := by
  have hlen : l.length = n := hF.row.len
  have HTK : Hid (∀ k, k < n → textT (msL (l.take (k + 1))) = textT (msL (l.take k)) ++ (lineL (wordsM (l.getD k noM).m) ++ sigsT (l.getD k noM).m.sigs)) := Hid.mk (fun k hk => text_take l (by omega))
  have HT0 : Hid (textT (msL (l.take 0)) = []) := Hid.mk (by simp [msL, textT])
  have HTN : Hid (textT (msL (l.take n)) = textT (msL l)) := Hid.mk (by rw [← hlen, List.take_length])
  have HTL : Hid (∀ k, (textT (msL (l.take k))).length ≤ 42000) := Hid.mk (fun k => by
    have h1 := textT_len (l := msL (l.take k)) (fun m hm => by
      unfold msL at hm
      rw [List.mem_map] at hm
      obtain ⟨v, hv, rfl⟩ := hm
      obtain ⟨i, hi, rfl⟩ := List.getElem_of_mem (List.mem_of_mem_take hv)
      have := hMB i (by omega)
      rwa [getD_at hi] at this)
    have h2 : (msL (l.take k)).length ≤ 20 := by unfold msL; simp; omega
    omega)
  have HF := Hid.mk (fun W (h : Below w.heap.size w W) => hF.kept h)
  have HMB := Hid.mk hMB
  have HIT := Hid.mk (fun m W (h0 : -10000000000 < m) (h1 : m < 10000000000) (h : Below w.heap.size w W) => itoaD m W h0 h1 (hT.kept h))
  have hn20' : (n : Int) ≤ 20 := by omega
  clear hF hMB hT hlen
  generalize textT (msL l) = TT at *
  generalize hTKK : (fun k => textT (msL (l.take k))) = TK at *
  have HTKE : Hid (∀ k, textT (msL (l.take k)) = TK k) := Hid.mk (fun k => by rw [← hTKK])
  clear hTKK
  simp only [HTKE.out] at HTK HT0 HTN HTL
  go_enter Tryz.func23, Tryz.ntmps23
  go_wp2_with fail
  go_loopw [3, 14] (fun s i wr => ∃ (k : Nat) (S : ByteArray), k ≤ n ∧ i = .int .i64 k ∧ s = .string S ∧ S.size ≤ 42000 ∧ Hid (S = bA (TK k)) ∧ Hid (Below w.heap.size w wr)) (fun _ i _ => n - (intOf i).toNat)
  case atStart => exact ⟨0, ⟨#[]⟩, Nat.zero_le _, rfl, rfl, by decide, Hid.mk (by rw [HT0.out]; rfl), Hid.mk (Below.refl _ _)⟩
  case round =>
    obtain ⟨k, S, hk, rfl, rfl, hSz, HSE, HBr⟩ := hrel
    obtain ⟨wo, hwo⟩ : ∃ wo, wo = wr := ⟨_, rfl⟩
    rw [← hwo] at HBr ⊢
    clear hwo
    by_cases hlt : k < n
    · have hlt' : (k : Int) < (n : Int) := by omega
      have hRow := HF.out _ HBr.out
      obtain ⟨x, hx⟩ := hRow.row.some hlt
      subst hx
      obtain ⟨g0, g1, g2, g3, g4, g5⟩ := hRow.at hlt
      have HIN := Hid.mk (hRow.each _ (hRow.mem hlt))
      have HMU := Hid.mk (HMB.out k hlt)
      have HTK1 := Hid.mk (HTK.out k hlt)
      generalize l.getD k noM = u at *
      have HX1 := Hid.mk (ms_box wo u)
      have HA1 := Hid.mk (MsAt.box wo u)
      have hML := mLine u.m
      have hi0 := HMU.out
      have HI1 := Hid.mk (fun W (h : Below w.heap.size w W) => HIT.out u.m.id W (by have := hi0.id0; omega) (by have := hi0.id1; omega) h)
      have HI2 := Hid.mk (fun W (h : Below w.heap.size w W) => HIT.out u.m.size W (by have := hi0.sz0; omega) (by have := hi0.sz1; omega) h)
      obtain ⟨X1, hX1⟩ : ∃ X, X = bA (Lib.itoa u.m.id) := ⟨_, rfl⟩
      obtain ⟨X2, hX2⟩ : ∃ X, X = bA (Lib.itoa u.m.size) := ⟨_, rfl⟩
      obtain ⟨X6, hX6⟩ : ∃ X, X = bA (xL u.m.lo) := ⟨_, rfl⟩
      obtain ⟨X7, hX7⟩ : ∃ X, X = bA (chL u.m) := ⟨_, rfl⟩
      have hs1 : X1.size ≤ 11 := by rw [hX1, bA_size]; exact itoa_len (by have := hi0.id0; omega) (by have := hi0.id1; omega)
      have hs2 : X2.size ≤ 11 := by rw [hX2, bA_size]; exact itoa_len (by have := hi0.sz0; omega) (by have := hi0.sz1; omega)
      have hs6 : X6.size ≤ 1 := by rw [hX6, bA_size]; unfold xL; split <;> simp
      have hs7 : X7.size ≤ 16 := by rw [hX7, bA_size]; exact (chL_len hi0).2
      have hs0 : u.m.nm.size ≤ 16 := by have h := (nm_len hi0.nm).2; have e : u.m.nm.size = u.m.nm.data.toList.length := rfl; omega
      have HLN : Hid (bA (TK k ++ lineL (wordsM u.m)) = S ++ (⟨#[109, 101, 115, 115, 97, 103, 101, 32]⟩ ++ u.m.nm ++ ⟨#[32]⟩ ++ X1 ++ X6 ++ ⟨#[32]⟩ ++ X2 ++ ⟨#[32]⟩ ++ X7 ++ ⟨#[10]⟩)) := Hid.mk (by
        rw [hML, HSE.out, hX1, hX2, hX6, hX7]
        apply ByteArray.ext
        simp [bA])
      rw [← hX1] at HI1
      rw [← hX2] at HI2
      have HX6 : Hid (X6 = if u.m.lo = true then (⟨#[120]⟩ : ByteArray) else ⟨#[]⟩) := Hid.mk (by rw [hX6]; unfold xL; split <;> rfl)
      have HCN : Hid (u.m.ch < 0 → X7 = ⟨#[45]⟩) := Hid.mk (fun h => by rw [hX7]; unfold chL; rw [if_neg (by omega)]; rfl)
      have HCS : Hid (∀ k0 : Nat, u.m.ch = k0 → X7 = (u.m.sigs.getD k0 noS).nm) := Hid.mk (fun k0 h => by rw [hX7]; unfold chL Msg.at; rw [if_pos (by omega), h]; exact bA_of _)
      have HCH : Hid (u.m.ch < 0 ∨ ∃ k0 : Nat, u.m.ch = k0 ∧ k0 < u.n) := Hid.mk (by
        have h1 := hi0.ch1
        have h2 : u.m.sigs.length = u.n := HIN.out.row.len
        rcases Int.lt_or_le u.m.ch 0 with h | h
        · exact .inl h
        · exact .inr ⟨u.m.ch.toNat, by omega, by omega⟩)
      have HROW := Hid.mk (fun W (h : Below wo.heap.size wo W) => (HIN.out.kept h).row)
      have HSL : Hid (u.m.sigs.length = u.n) := Hid.mk HIN.out.row.len
      have HSB := Hid.mk (fun q (hq : q < u.m.sigs.length) => show SB (u.m.sigs.getD q noS) from hi0.sb _ (by rw [getD_at hq]; exact List.getElem_mem hq))
      have HNT := HTL.out (k + 1)
      rw [HTK1.out, List.length_append, List.length_append] at HNT
      have HLM : Hid (∀ q, (TK k ++ lineL (wordsM u.m) ++ sigsT (u.m.sigs.take q)).length ≤ 42000) := Hid.mk (fun q => by
        have h1 : (sigsT (u.m.sigs.take q)).length ≤ (sigsT u.m.sigs).length := by
          have e := congrArg List.length (show sigsT (u.m.sigs.take q) ++ sigsT (u.m.sigs.drop q) = sigsT u.m.sigs by unfold sigsT; rw [← List.flatMap_append, List.take_append_drop])
          rw [List.length_append] at e
          omega
        rw [List.length_append, List.length_append]
        omega)
      clear hRow hML hX1 hX2 hX6 hX7 hi0 HNT HIN HMU
      generalize wordsM u.m = WM at *
      obtain ⟨⟨mid, mlo, mnm, size, mch, sigs⟩, ma, mn, mcap⟩ := u
      unfold msC at HX1 HA1
      simp only at g0 g1 g2 g3 g4 g5 HX1 HA1 HI1 HI2 HX6 HCN HCS HCH HROW HSL HSB HLM HLN HTK1 hs0
      obtain ⟨W1, hW1⟩ : ∃ W1, W1 = wo.alloc (.cells #[.int .i64 mid, .bool mlo, .string mnm, .int .i64 size, .int .i64 mch, .slice ma mn mcap] 24) := ⟨_, rfl⟩
      rw [← hW1] at HX1 HA1
      have HW1 := Hid.mk hW1
      go_upto_if 19 with fail
      rw [← hW1]
      clear hW1 g0 g1 g2 g3 g4 g5
      go_cut [6] (fun s6 wx => s6 = .string X6 ∧ Hid (wx = W1))
      case first =>
        cases mlo with
        | true =>
          have HX7' : Hid (X6 = ⟨#[120]⟩) := Hid.mk (by rw [HX6.out]; rfl)
          go_wp2_with fail
          go_meet
          exact ⟨by rw [HX7'.out], Hid.mk rfl⟩
        | false =>
          have HX7' : Hid (X6 = ⟨#[]⟩) := Hid.mk (by rw [HX6.out]; rfl)
          go_wp2_with fail
          go_meet
          exact ⟨by rw [HX7'.out], Hid.mk rfl⟩
      case rest =>
        obtain ⟨rfl, hcw⟩ := hcut
        rw [hcw.out]
        clear hcw
        obtain ⟨m0, m1, m2, m3, m4, m5⟩ := HA1.out
        simp only at m0 m1 m2 m3 m4 m5
        have HB1 := Hid.mk (bl2 HBr.out HX1.out)
        go_upto_if 22 with fail
        go_cut [7] (fun s7 wx => s7 = .string X7 ∧ Hid (wx = W1))
        case first =>
          rcases HCH.out with hneg | ⟨k0, hk0, hk0n⟩
          · have HX8 := Hid.mk (HCN.out hneg)
            go_wp2_with fail
            go_meet
            exact ⟨by rw [HX8.out], Hid.mk rfl⟩
          · subst hk0
            have hk0' : (0 : Int) ≤ (k0 : Int) ∧ (k0 : Int) < (mn : Int) := by omega
            have hRw := HROW.out _ HX1.out
            obtain ⟨y, hy⟩ := hRw.some hk0n
            subst hy
            have hSg := (hRw.at hk0n).c0
            have HX8 := Hid.mk (HCS.out k0 rfl)
            generalize (sigs.getD k0 noS).nm = X5 at *
            clear hRw
            go_wp2_with fail
            go_meet
            exact ⟨by rw [HX8.out], Hid.mk rfl⟩
        case rest =>
          obtain ⟨rfl, hcw⟩ := hcut
          rw [hcw.out]
          clear hcw
          have HIa := Hid.mk (fun d os => HI1.out (grow (redrawn W1 d) os) (bl2 HB1.out (below_regrown W1 d os)))
          have HIb := Hid.mk (fun d os => HI2.out (grow (redrawn W1 d) os) (bl2 HB1.out (below_regrown W1 d os)))
          have r0 := fun d os => cell_regrown m0 d os
          have r2 := fun d os => cell_regrown m2 d os
          have r3 := fun d os => cell_regrown m3 d os
          clear HI1 HI2 HCN HCS HCH HX6
          go_wp2_with fail
          refine wp_region_quiet_below (by kernel_rfl) (by kernel_rfl) ?_
          set_option maxRecDepth 100000 in
          repeat (go_big_quiet_step ((go_at_call 68; first | exact Calls.regrown_of (HIa.out _ _) | exact Calls.regrown_of (HIb.out _ _))))
          refine wpQuiet_nil ?_
          intro _ hw'
          obtain ⟨⟨dq, osq⟩, hw''⟩ := hw'
          have hbq := below_regrown W1 dq osq
          rw [hw'']
          generalize grow (redrawn W1 dq) osq = W2 at *
          rw [← HLN.out]
          obtain ⟨S1, hS1⟩ : ∃ S1, S1 = bA (TK k ++ lineL WM) := ⟨_, rfl⟩
          rw [← hS1]
          have hS1z : S1.size ≤ 42000 := by
            have h := HLM.out 0
            rw [hS1, bA_size]
            simpa [sigsT] using h
          have HS1 := Hid.mk hS1
          have HX2 := Hid.mk (bl2 HX1.out hbq)
          have HB2 := Hid.mk (bl2 HB1.out hbq)
          have HA2 := Hid.mk (HA1.out.kept hbq)
          clear hw'' hbq r0 r2 r3 m0 m1 m2 m3 m4 m5 hS1 HIa HIb HX1 HB1 HA1 HLN HSE hs0 hs1 hs2 hs6 hs7 hSz
          have m5 := HA2.out.c5
          simp only at m5
          obtain ⟨PR, hPR⟩ : ∃ PR, PR = TK k ++ lineL WM := ⟨_, rfl⟩
          rw [← hPR] at HS1 HLM
          have HPR := Hid.mk hPR
          clear hPR
          have hmn63 : (mn : Int) ≤ 9223372036854775807 := by have h1 := (HROW.out _ HX2.out).le; have h2 := (HROW.out _ HX2.out).max; unfold maxLen at h2; omega
          go_wp2_with fail
          go_loopw [3, 54] (fun s i wr => ∃ (q : Nat) (S2 : ByteArray), q ≤ mn ∧ i = .int .i64 q ∧ s = .string S2 ∧ S2.size ≤ 42000 ∧ Hid (S2 = bA (PR ++ sigsT (sigs.take q))) ∧ Hid (Below W2.heap.size W2 wr)) (fun _ i _ => mn - (intOf i).toNat)
          case atStart => exact ⟨0, S1, Nat.zero_le _, rfl, rfl, hS1z, Hid.mk (by rw [HS1.out]; simp [sigsT]), Hid.mk (Below.refl _ _)⟩
          case round =>
            obtain ⟨q, S2, hq, rfl, rfl, hS2z, HS2, HBq⟩ := hrel
            clear hS1z HS1
            by_cases hqlt : q < mn
            · have hqlt' : (q : Int) < (mn : Int) := by omega
              have HXq := Hid.mk (bl2 HX2.out HBq.out)
              have HWq := Hid.mk (bl2 HB2.out HBq.out)
              have hRw := HROW.out _ HXq.out
              obtain ⟨y, hy⟩ := hRw.some hqlt
              have hqs : q < sigs.length := by rw [HSL.out]; exact hqlt
              have HTQ := Hid.mk (sigs_take sigs hqs)
              have HNQ := Hid.mk (HLM.out (q + 1))
              rw [HTQ.out] at HNQ
              have hb0 := HSB.out q hqs
              rw [hy] at hRw
              obtain ⟨c0, c1, c2, c3, c4, c5, c6, c7, c8⟩ := hRw.at hqlt
              generalize sigs.getD q noS = z at *
              have HV := Hid.mk (sg_box wr z)
              have HVA := Hid.mk (SgAt.box wr z)
              have hSL := sLine z
              have bnd : ∀ v : Int, -1000000 ≤ v → v ≤ 1000000 → -10000000000 < v ∧ v < 10000000000 := fun v h0 h1 => ⟨by omega, by omega⟩
              have n1 := bnd z.st (by have := hb0.st0; omega) (by have := hb0.st1; omega)
              have n2 := bnd z.sz (by have := hb0.sz0; omega) (by have := hb0.sz1; omega)
              have n3 := bnd z.mu (by have := hb0.mu0; omega) (by have := hb0.mu1; omega)
              have n4 := bnd z.di (by have := hb0.di0; omega) (by have := hb0.di1; omega)
              have n5 := bnd z.ad (by have := hb0.ad0; omega) (by have := hb0.ad1; omega)
              have n6 := bnd z.ky (by have := hb0.ky0; omega) (by have := hb0.ky1; omega)
              have HJ1 := Hid.mk (fun W (h : Below w.heap.size w W) => HIT.out z.st W n1.1 n1.2 h)
              have HJ2 := Hid.mk (fun W (h : Below w.heap.size w W) => HIT.out z.sz W n2.1 n2.2 h)
              have HJ3 := Hid.mk (fun W (h : Below w.heap.size w W) => HIT.out z.mu W n3.1 n3.2 h)
              have HJ4 := Hid.mk (fun W (h : Below w.heap.size w W) => HIT.out z.di W n4.1 n4.2 h)
              have HJ5 := Hid.mk (fun W (h : Below w.heap.size w W) => HIT.out z.ad W n5.1 n5.2 h)
              have HJ6 := Hid.mk (fun W (h : Below w.heap.size w W) => HIT.out z.ky W n6.1 n6.2 h)
              obtain ⟨Y1, hY1⟩ : ∃ X, X = bA (Lib.itoa z.st) := ⟨_, rfl⟩
              obtain ⟨Y2, hY2⟩ : ∃ X, X = bA (Lib.itoa z.sz) := ⟨_, rfl⟩
              obtain ⟨Y3, hY3⟩ : ∃ X, X = bA (Lib.itoa z.mu) := ⟨_, rfl⟩
              obtain ⟨Y4, hY4⟩ : ∃ X, X = bA (Lib.itoa z.di) := ⟨_, rfl⟩
              obtain ⟨Y5, hY5⟩ : ∃ X, X = bA (Lib.itoa z.ad) := ⟨_, rfl⟩
              obtain ⟨Y6, hY6⟩ : ∃ X, X = bA (kyT z) := ⟨_, rfl⟩
              obtain ⟨Y7, hY7⟩ : ∃ X, X = bA (bkL z ++ sgL z) := ⟨_, rfl⟩
              obtain ⟨Y8, hY8⟩ : ∃ X : ByteArray, X = if z.bk = true then ⟨#[62, 43]⟩ else ⟨#[60, 43]⟩ := ⟨_, rfl⟩
              have t0 : z.nm.size ≤ 16 := by have h := (nm_len hb0.nm).2; have e : z.nm.size = z.nm.data.toList.length := rfl; omega
              have t1 : Y1.size ≤ 11 := by rw [hY1, bA_size]; exact itoa_len n1.1 n1.2
              have t2 : Y2.size ≤ 11 := by rw [hY2, bA_size]; exact itoa_len n2.1 n2.2
              have t3 : Y3.size ≤ 11 := by rw [hY3, bA_size]; exact itoa_len n3.1 n3.2
              have t4 : Y4.size ≤ 11 := by rw [hY4, bA_size]; exact itoa_len n4.1 n4.2
              have t5 : Y5.size ≤ 11 := by rw [hY5, bA_size]; exact itoa_len n5.1 n5.2
              have t6 : Y6.size ≤ 11 := by rw [hY6, bA_size]; exact (kyT_len hb0).2
              have t7 : Y7.size ≤ 2 := by rw [hY7, bA_size]; unfold bkL sgL; split <;> split <;> simp
              have t8 : Y8.size ≤ 2 := by rw [hY8]; split <;> decide
              have HLQ : Hid (bA (PR ++ sigsT (sigs.take q) ++ lineL (wordsS z)) = S2 ++ (⟨#[115, 105, 103, 110, 97, 108, 32]⟩ ++ z.nm ++ ⟨#[32]⟩ ++ Y1 ++ ⟨#[58]⟩ ++ Y2 ++ Y7 ++ ⟨#[32]⟩ ++ Y3 ++ ⟨#[47]⟩ ++ Y4 ++ ⟨#[32]⟩ ++ Y5 ++ ⟨#[32]⟩ ++ Y6 ++ ⟨#[10]⟩)) := Hid.mk (by
                rw [hSL, HS2.out, hY1, hY2, hY3, hY4, hY5, hY6, hY7]
                apply ByteArray.ext
                simp [bA])
              rw [← hY1] at HJ1
              rw [← hY2] at HJ2
              rw [← hY3] at HJ3
              rw [← hY4] at HJ4
              rw [← hY5] at HJ5
              have HKN : Hid (z.ky < 0 → Y6 = ⟨#[45]⟩) := Hid.mk (fun h => by rw [hY6]; unfold kyT; rw [if_neg (by omega)]; rfl)
              have HKS : Hid (0 ≤ z.ky → bA (Lib.itoa z.ky) = Y6) := Hid.mk (fun h => by rw [hY6]; unfold kyT; rw [if_pos h])
              have HY7 : Hid (Y7 = bA (bkL z ++ sgL z)) := Hid.mk hY7
              have HY8 := Hid.mk hY8
              unfold bkL sgL at HY7
              clear hY1 hY2 hY3 hY4 hY5 hY6 hY7 hY8 n1 n2 n3 n4 n5 n6 bnd hb0 hSL hqs hRw
              generalize wordsS z = WS at *
              obtain ⟨znm, zst, zsz, zbk, zsg, zmu, zdi, zad, zky⟩ := z
              unfold sgC at HV HVA
              simp only at c0 c1 c2 c3 c4 c5 c6 c7 c8 HV HVA HJ1 HJ2 HJ3 HJ4 HJ5 HJ6 HKN HKS HY7 HY8 HLQ t0
              obtain ⟨V1, hV1⟩ : ∃ V1, V1 = wr.alloc (.cells #[.string znm, .int .i64 zst, .int .i64 zsz, .bool zbk, .bool zsg, .int .i64 zmu, .int .i64 zdi, .int .i64 zad, .int .i64 zky] 42) := ⟨_, rfl⟩
              rw [← hV1] at HV HVA
              cases ma with
              | none => cases hy
              | some y' =>
              cases hy
              go_upto_if 59 with fail
              rw [← hV1]
              clear hV1 c0 c1 c2 c3 c4 c5 c6 c7 c8 m5
              go_cut [10] (fun s10 wx => s10 = .string Y8 ∧ Hid (wx = V1))
              case first =>
                cases zbk with
                | true =>
                  have HY9 : Hid (Y8 = ⟨#[62, 43]⟩) := Hid.mk (by rw [HY8.out]; rfl)
                  go_wp2_with fail
                  go_meet
                  exact ⟨by rw [HY9.out], Hid.mk rfl⟩
                | false =>
                  have HY9 : Hid (Y8 = ⟨#[60, 43]⟩) := Hid.mk (by rw [HY8.out]; rfl)
                  go_wp2_with fail
                  go_meet
                  exact ⟨by rw [HY9.out], Hid.mk rfl⟩
              case rest =>
                obtain ⟨rfl, hcw⟩ := hcut
                rw [hcw.out]
                clear hcw
                obtain ⟨e0, e1, e2, e3, e4, e5, e6, e7, e8⟩ := HVA.out
                simp only at e0 e1 e2 e3 e4 e5 e6 e7 e8
                have HWv := Hid.mk (bl2 HWq.out HV.out)
                go_upto_if 61 with fail
                go_cut [10] (fun s10 wx => s10 = .string Y7 ∧ Hid (wx = V1))
                case first =>
                  cases zsg with
                  | false =>
                    have HY9 : Hid (Y7 = Y8) := Hid.mk (by rw [HY7.out, HY8.out]; cases zbk <;> rfl)
                    go_wp2_with fail
                    go_meet
                    exact ⟨by rw [HY9.out], Hid.mk rfl⟩
                  | true =>
                    cases zbk with
                    | true =>
                      have h8 := HY8.out
                      rw [if_pos rfl] at h8
                      subst h8
                      have HY9 : Hid (Y7 = ⟨#[62, 45]⟩) := Hid.mk (by rw [HY7.out]; rfl)
                      go_wp2_with fail
                      go_meet
                      exact ⟨by rw [HY9.out]; rfl, Hid.mk rfl⟩
                    | false =>
                      have h8 := HY8.out
                      rw [if_neg (by simp)] at h8
                      subst h8
                      have HY9 : Hid (Y7 = ⟨#[60, 45]⟩) := Hid.mk (by rw [HY7.out]; rfl)
                      go_wp2_with fail
                      go_meet
                      exact ⟨by rw [HY9.out]; rfl, Hid.mk rfl⟩
                case rest =>
                  obtain ⟨rfl, hcw⟩ := hcut
                  rw [hcw.out]
                  clear hcw
                  go_upto_if 67 with fail
                  go_cut [11] (fun s11 wx => s11 = .string Y6 ∧ Hid (Below V1.heap.size V1 wx))
                  case first =>
                    by_cases hky : 0 ≤ zky
                    · have HJK := Hid.mk (HJ6.out V1 HWv.out)
                      rw [HKS.out hky] at HJK
                      go_wp2_with fail
                      refine HJK.out.mono ?_
                      rintro e w9 ⟨rfl, hb9⟩
                      have HB9 := Hid.mk hb9
                      clear hb9
                      go_wp2_with fail
                      go_meet
                      exact ⟨rfl, HB9⟩
                    · have HY9 := Hid.mk (HKN.out (by omega))
                      go_wp2_with fail
                      go_meet
                      exact ⟨by rw [HY9.out], Hid.mk (Below.refl _ _)⟩
                  case rest =>
                    obtain ⟨rfl, HBc⟩ := hcut
                    have HWc := Hid.mk (bl2 HWv.out HBc.out)
                    have HVc := Hid.mk (bl2 HV.out HBc.out)
                    have HAc := Hid.mk (HVA.out.kept HBc.out)
                    clear e0 e1 e2 e3 e4 e5 e6 e7 e8 HWv HVA HBc HJ6 HKN HKS HY7 HY8 HV
                    obtain ⟨e0, e1, e2, e3, e4, e5, e6, e7, e8⟩ := HAc.out
                    simp only at e0 e1 e2 e3 e4 e5 e6 e7 e8
                    have HIa := Hid.mk (fun d os => HJ1.out (grow (redrawn wc d) os) (bl2 HWc.out (below_regrown wc d os)))
                    have HIb := Hid.mk (fun d os => HJ2.out (grow (redrawn wc d) os) (bl2 HWc.out (below_regrown wc d os)))
                    have HIc := Hid.mk (fun d os => HJ3.out (grow (redrawn wc d) os) (bl2 HWc.out (below_regrown wc d os)))
                    have HId := Hid.mk (fun d os => HJ4.out (grow (redrawn wc d) os) (bl2 HWc.out (below_regrown wc d os)))
                    have HIe := Hid.mk (fun d os => HJ5.out (grow (redrawn wc d) os) (bl2 HWc.out (below_regrown wc d os)))
                    have r0 := fun d os => cell_regrown e0 d os
                    have r1 := fun d os => cell_regrown e1 d os
                    have r2 := fun d os => cell_regrown e2 d os
                    have r5 := fun d os => cell_regrown e5 d os
                    have r6 := fun d os => cell_regrown e6 d os
                    have r7 := fun d os => cell_regrown e7 d os
                    clear HJ1 HJ2 HJ3 HJ4 HJ5
                    go_wp2_with fail
                    refine wp_region_quiet_below (by kernel_rfl) (by kernel_rfl) ?_
                    set_option maxRecDepth 100000 in
                    repeat (go_big_quiet_step ((go_at_call 68; first | exact Calls.regrown_of (HIa.out _ _) | exact Calls.regrown_of (HIb.out _ _) | exact Calls.regrown_of (HIc.out _ _) | exact Calls.regrown_of (HId.out _ _) | exact Calls.regrown_of (HIe.out _ _))))
                    refine wpQuiet_nil ?_
                    intro _ hw'
                    obtain ⟨⟨dq, osq⟩, hw''⟩ := hw'
                    have hbq := below_regrown wc dq osq
                    rw [hw'']
                    generalize grow (redrawn wc dq) osq = V2 at *
                    rw [← HLQ.out]
                    obtain ⟨S3, hS3⟩ : ∃ S3, S3 = bA (PR ++ sigsT (sigs.take q) ++ lineL WS) := ⟨_, rfl⟩
                    rw [← hS3]
                    have hS3z : S3.size ≤ 42000 := by
                      have h := HNQ.out
                      rw [← List.append_assoc] at h
                      rw [hS3, bA_size]
                      exact h
                    have HS3 : Hid (S3 = bA (PR ++ sigsT (sigs.take (q + 1)))) := Hid.mk (by rw [hS3, HTQ.out, List.append_assoc])
                    have HB3 := Hid.mk (bl2 HBq.out (bl2 HVc.out hbq))
                    clear hw'' hbq hS3 r0 r1 r2 r5 r6 r7 e0 e1 e2 e3 e4 e5 e6 e7 e8 HIa HIb HIc HId HIe HLQ
                    go_wp2_with fail
                    go_roundw
                    case rel => exact ⟨q + 1, S3, by omega, by go_num, rfl, hS3z, HS3, HB3⟩
                    case measure => simp [intOf]; omega
            · have e : q = mn := by omega
              subst e
              have HTQ : Hid (S2 = bA (TK (k + 1))) := Hid.mk (by
                rw [HS2.out, HTK1.out, HPR.out, List.take_of_length_le (by rw [HSL.out]; exact Nat.le_refl _), List.append_assoc])
              have HBx := Hid.mk (bl2 HB2.out HBq.out)
              go_wp2_with fail
              go_roundw
              case rel => exact ⟨k + 1, S2, by omega, by go_num, rfl, hS2z, HTQ, HBx⟩
              case measure => simp [intOf]; omega
    · have e : k = n := by omega
      subst e
      go_wp2_with fail
      go_ret
      exact ⟨by rw [HSE.out, HTN.out]; rfl, HBr.out⟩
end Bw
end Go.Proofs.YtlnkhlifkooohaaGreatDoor
