/- What the document's own RawOf answers. -/
import Derived.Test.YtjgliinpaadbnaaGreatDoorSgPls
import Derived.Test.YtjgliinpaadbnaaGreatDoorSgReadOk
import Derived.BigQuiet
namespace Go.Proofs.YtjgliinpaadbnaaGreatDoor
open Go.ChangeShapes Go.WideShapes Go.ChangeAt Go.RowKit Go.Sort
namespace Bw
open Sm
set_option maxHeartbeats 8000000 in
set_option maxRecDepth 100000 in
theorem placesOf_any (s : Sig) (st sz : Nat) (w : World) (hst : s.st = st) (hsz : s.sz = sz) (hs : st ≤ 1000) (h1 : 1 ≤ sz) (h40 : sz ≤ 40) :
    Calls Tryz.prog 61 #[sgV s] w fun e w' => ∃ g, e = .returned (.slice (some ⟨g, 0, none⟩) sz sz) ∧ w.heap.size ≤ g ∧
      w'.ownsRow w.heap.size 3 1 (.slice (some ⟨g, 0, none⟩) sz sz) sz (pnC (plsL s.bk st sz sz)) ∧ Below w.heap.size w w' := by
  obtain ⟨i0, hi, hz0, hz1, hz2⟩ := info_parts info_intP
  have HB := Hid.mk (sg_box w s)
  have HG := Hid.mk (SgAt.box w s)
  obtain ⟨nm, sta, sza, bk, sg, mu, di, ad, ky⟩ := s
  simp only at hst hsz
  subst hst
  subst hsz
  have HSET := Hid.mk (fun k hk => plsK_set bk st sz k hk)
  have HAT := Hid.mk (fun k hk => plsK_at bk st sz k hk)
  have HST0 := Hid.mk (plsK_start bk st sz)
  have HEND := Hid.mk (plsK_end bk st sz)
  unfold sgC at HB HG
  unfold sgV
  simp only at HB HG ⊢
  have a1 : (1 : Int) ≤ (sz : Int) := by omega
  have a2 : (sz : Int) ≤ 40 := by omega
  have a3 : (st : Int) ≤ 1000 := by omega
  go_enter Tryz.func61, Tryz.ntmps61
  obtain ⟨w1, hw1⟩ : ∃ w1, w1 = w.alloc (.cells #[.string nm, .int .i64 (st : Int), .int .i64 (sz : Int), .bool bk, .bool sg, .int .i64 mu, .int .i64 di, .int .i64 ad, .int .i64 ky] 42) := ⟨_, rfl⟩
  rw [← hw1] at HB HG
  have HS1 := Hid.mk (show w1.heap.size = w.heap.size + 1 by rw [hw1]; simp)
  cases bk with
  | false =>
    go_wp2_with (at_make; rw [← hw1]; clear hw1; refine wpList_make_full _ rfl (.tmp 9) (.tmp 9) 78 rfl w1.heap.size 3 i0 (.int .i64 0) 1 Tryz.underlying78 hi hz0 hz1 .i64 .i64 _ _ sz rfl rfl (by omega) (by omega) (by rw [hz2]; omega) (by unfold maxLen; omega) (Nat.le_refl _) ?_; intro w2 hown hgrow; have hb2 : Below w1.heap.size w1 w2 := Below.grown (Below.refl _ _) hgrow (Nat.le_refl _) (fun q hq => by cases hq); obtain ⟨k0, k1, k2, k3, k4, k5, k6, k7, k8⟩ := HG.out.kept hb2; simp only at k0 k1 k2 k3 k4 k5 k6 k7 k8)
    have hown0 : w2.ownsRow w1.heap.size 3 1 (.slice (some ⟨w1.heap.size, 0, none⟩) sz sz) sz (pnC (plsK false st sz 0)) := by
      rw [HST0.out, ← toList_madeCells_one]
      rw [Nat.mul_one] at hown
      exact hown
    have HO := Hid.mk hown0
    have HB2 := Hid.mk hb2
    clear hown hgrow hi hz0 hz1 hz2 hown0 hb2 k0 k1 k2 k3 k4 k5 k6 k7 k8
    go_loopw [16] (fun i wr => ∃ k : Nat, k ≤ sz ∧ i = .int .i64 k ∧ Hid (wr.ownsRow w1.heap.size 3 1 (.slice (some ⟨w1.heap.size, 0, none⟩) sz sz) sz (pnC (plsK false st sz k))) ∧ Hid (Below w1.heap.size w1 wr)) (fun i _ => sz - (intOf i).toNat)
    case atStart => exact ⟨0, Nat.zero_le _, rfl, HO, HB2⟩
    case round =>
      clear HO HB2
      obtain ⟨k, hk, rfl, HOk, HBk⟩ := hrel
      by_cases hlt : k < sz
      · have hlt' : (k : Int) < (sz : Int) := by omega
        have c1 := (HG.out.kept HBk.out).c1
        simp only at c1
        have hc3 := HOk.out.cellAt k (by omega)
        have hf3 := HOk.out.frozenAt k
        rw [HAT.out k hlt] at hc3
        have hst := HOk.out.stored k (.int .i64 (plN false st sz k : Int))
        rw [HSET.out k hlt] at hst
        have HST := Hid.mk hst
        clear hst
        go_wp2_with fail
        go_roundw
        case rel => exact ⟨k + 1, by omega, by go_num, Hid.mk HST.out.1, Hid.mk (HBk.out.grown HST.out.2 HBk.out.size (fun q hq => by cases hq; exact Nat.le_refl _))⟩
        case measure => simp [intOf]; omega
      · have e : k = sz := by omega
        subst e
        have hfin := HOk.out
        rw [HEND.out] at hfin
        have HF := Hid.mk hfin
        clear hfin
        go_wp2_with fail
        go_ret
        exact ⟨_, rfl, by rw [HS1.out]; exact Nat.le_succ _, owns_baseP HF.out HB.out.size, bl2 HB.out HBk.out⟩
  | true =>
    obtain ⟨F, hF⟩ : ∃ F, F = flipN st := ⟨_, rfl⟩
    have hrow : (st : Int) / 8 * 8 + 7 - (st : Int) % 8 = (F : Int) := by rw [hF]; unfold flipN; omega
    have hFb : (F : Int) ≤ 1007 := by rw [hF]; unfold flipN; omega
    have hplF : ∀ k, plN true st sz k = flipN (F + sz - 1 - k) := fun k => by rw [hF]; rfl
    have HPLF := Hid.mk hplF
    clear hF hplF
    go_wp2_with (at_make; rw [← hw1]; clear hw1; refine wpList_make_full _ rfl (.tmp 9) (.tmp 9) 78 rfl w1.heap.size 3 i0 (.int .i64 0) 1 Tryz.underlying78 hi hz0 hz1 .i64 .i64 _ _ sz rfl rfl (by omega) (by omega) (by rw [hz2]; omega) (by unfold maxLen; omega) (Nat.le_refl _) ?_; intro w2 hown hgrow; have hb2 : Below w1.heap.size w1 w2 := Below.grown (Below.refl _ _) hgrow (Nat.le_refl _) (fun q hq => by cases hq); obtain ⟨k0, k1, k2, k3, k4, k5, k6, k7, k8⟩ := HG.out.kept hb2; simp only at k0 k1 k2 k3 k4 k5 k6 k7 k8)
    have hown0 : w2.ownsRow w1.heap.size 3 1 (.slice (some ⟨w1.heap.size, 0, none⟩) sz sz) sz (pnC (plsK true st sz 0)) := by
      rw [HST0.out, ← toList_madeCells_one]
      rw [Nat.mul_one] at hown
      exact hown
    have HO := Hid.mk hown0
    have HB2 := Hid.mk hb2
    clear hown hgrow hi hz0 hz1 hz2 hown0 hb2 k0 k1 k2 k3 k4 k5 k6 k7 k8
    go_loopw [39] (fun i wr => ∃ k : Nat, k ≤ sz ∧ i = .int .i64 k ∧ Hid (wr.ownsRow w1.heap.size 3 1 (.slice (some ⟨w1.heap.size, 0, none⟩) sz sz) sz (pnC (plsK true st sz k))) ∧ Hid (Below w1.heap.size w1 wr)) (fun i _ => sz - (intOf i).toNat)
    case atStart => exact ⟨0, Nat.zero_le _, rfl, HO, HB2⟩
    case round =>
      clear HO HB2
      obtain ⟨k, hk, rfl, HOk, HBk⟩ := hrel
      by_cases hlt : k < sz
      · have hlt' : (k : Int) < (sz : Int) := by omega
        have c2 := (HG.out.kept HBk.out).c2
        simp only at c2
        have hc3 := HOk.out.cellAt k (by omega)
        have hf3 := HOk.out.frozenAt k
        rw [HAT.out k hlt] at hc3
        obtain ⟨N, hN⟩ : ∃ N, N = F + sz - 1 - k := ⟨_, rfl⟩
        have hn : (F : Int) + (sz : Int) - 1 - (k : Int) = (N : Int) := by omega
        have hNb : (N : Int) ≤ 2000 := by omega
        obtain ⟨p, hp⟩ : ∃ p, p = plN true st sz k := ⟨_, rfl⟩
        have hpe : (N : Int) / 8 * 8 + 7 - (N : Int) % 8 = (p : Int) := by rw [hp, HPLF.out, ← hN]; unfold flipN; omega
        have hst := HOk.out.stored k (.int .i64 (p : Int))
        rw [hp, HSET.out k hlt, ← hp] at hst
        have HST := Hid.mk hst
        clear hst hN hp
        go_wp2_with fail
        go_roundw
        case rel => exact ⟨k + 1, by omega, by go_num, Hid.mk HST.out.1, Hid.mk (HBk.out.grown HST.out.2 HBk.out.size (fun q hq => by cases hq; exact Nat.le_refl _))⟩
        case measure => simp [intOf]; omega
      · have e : k = sz := by omega
        subst e
        have hfin := HOk.out
        rw [HEND.out] at hfin
        have HF := Hid.mk hfin
        clear hfin
        go_wp2_with fail
        go_ret
        exact ⟨_, rfl, by rw [HS1.out]; exact Nat.le_succ _, owns_baseP HF.out HB.out.size, bl2 HB.out HBk.out⟩
end Bw
end Go.Proofs.YtjgliinpaadbnaaGreatDoor
namespace Go.Proofs.YtjgliinpaadbnaaGreatDoor
open Go.ChangeShapes Go.WideShapes Go.ChangeAt Go.RowKit Go.Sort
namespace Bw
open Sm
theorem and_bit_all : ((List.range 256).all fun c => (List.range 8).all fun k => bits .and .u8 (c : Int) (2 ^ k) == ((c / 2 ^ k % 2 : Nat) : Int) * 2 ^ k && IntKind.u8.wrap (2 ^ k) == 2 ^ k && decide ((2 : Int) ^ k ≤ 128)) = true := by kernel_rfl
theorem and_bit {c k : Nat} (hc : c < 256) (hk : k < 8) : bits .and .u8 (c : Int) (2 ^ k) = ((c / 2 ^ k % 2 : Nat) : Int) * 2 ^ k ∧ IntKind.u8.wrap (2 ^ k) = 2 ^ k ∧ (2 : Int) ^ k ≤ 128 := by
  have h := List.all_eq_true.1 (List.all_eq_true.1 and_bit_all c (List.mem_range.2 hc)) k (List.mem_range.2 hk)
  simpa [and_assoc] using h
theorem pls_at (bk : Bool) (st sz k : Nat) (hk : k < sz) : (plsL bk st sz sz).getD k 0 = (plN bk st sz k : Int) := by
  unfold plsL
  rw [List.getD_eq_getElem?_getD, List.getElem?_map, List.getElem?_range hk]
  rfl
theorem own_place {w : World} {base g st sz : Nat} {bk : Bool} (h : w.ownsRow base 3 1 (.slice (some ⟨g, 0, none⟩) sz sz) sz (pnC (plsL bk st sz sz))) (k : Nat) (hk : k < sz) : w.cell? ⟨g, k, none⟩ = some (.int .i64 (plN bk st sz k : Int)) := by
  rw [h.cellAt k (by omega), ← pls_at bk st sz k hk]
  have hl := plsL_length bk st sz sz
  simp [pnC, hl, hk]
theorem rawR_spanR {s : Sig} {st sz n : Nat} (hR : Rt s st sz n) (l : List UInt8) : lowS s.sg sz ≤ rawR s st sz l ∧ rawR s st sz l ≤ highS s.sg sz := by
  unfold rawR
  refine rawS_span hR.s1 (by omega) ?_
  have h := uN_lt s.bk st sz l
  have e : ((2 ^ sz : Nat) : Int) = 2 ^ sz := by simp
  rw [← e]
  omega
set_option maxHeartbeats 16000000 in
set_option maxRecDepth 100000 in
theorem rawOf_any (s : Sig) (st sz : Nat) (a : Option Addr) (len cap : Nat) (l : List UInt8) (w : World) (hD : IsBytes w a len cap l) (hR : Rt s st sz len) :
    Calls Tryz.prog 46 #[sgV s, .slice a len cap] w fun e w' => e = .returned (.int .i64 (rawR s st sz l)) ∧ Below w.heap.size w w' := by
  have HB := Hid.mk (sg_box w s)
  have HG := Hid.mk (SgAt.box w s)
  have h1 := hR.s1
  have h40 := hR.s40
  have hst := hR.hst
  have hsz := hR.hsz
  have hn64 := hR.n64
  have hP := fun W => placesOf_any s st sz W hst hsz (by have := hR.st_lt; omega) h1 h40
  have HPL := Hid.mk (fun (k : Nat) (hk : k < sz) => hR.pl_lt hk)
  have hRd : rawR s st sz l = rawS s.sg sz (uN s.bk st sz l) := rfl
  have hul := uN_lt s.bk st sz l
  have hud : uN s.bk st sz l = sumK (fun i => bitN l (plN s.bk st sz i)) sz := rfl
  have hp40 := pow_le40 h40
  have hp39 := pow_le40 (n := sz - 1) (by omega)
  have hpow : ((2 ^ sz : Nat) : Int) = 2 ^ sz := by simp
  have hph := pow_half h1
  unfold rawS at hRd
  rw [hRd]
  clear hRd
  generalize uN s.bk st sz l = U at *
  obtain ⟨nm, sta, sza, bk, sg, mu, di, ad, ky⟩ := s
  simp only at hst hsz
  subst hst
  subst hsz
  unfold sgC at HB HG
  unfold sgV at hP ⊢
  simp only at HB HG hP HPL hud ⊢
  have HP := Hid.mk hP
  have HD := Hid.mk hD
  have HU := Hid.mk hud
  have a1 : (1 : Int) ≤ (sz : Int) := by omega
  have a2 : (sz : Int) ≤ 40 := by omega
  have hlen0 : 1 ≤ len := by have := hR.st_lt; omega
  obtain ⟨Z, hZ⟩ : ∃ Z : Int, Z = 2 ^ sz := ⟨_, rfl⟩
  obtain ⟨Y, hY⟩ : ∃ Y : Int, Y = 2 ^ (sz - 1) := ⟨_, rfl⟩
  have hY0 : 0 < Y := by rw [hY]; exact Int.pow_pos (by omega)
  rw [← hZ] at hp40 hpow hph
  rw [← hY] at hp39 hph
  have hZ1 : IntKind.i64.wrap (1 * 2 ^ sz) = Z := by rw [IntKind.wrap_i64, ← hZ]; omega
  have hZ2 : IntKind.i64.wrap (2 ^ sz) = Z := by rw [IntKind.wrap_i64, ← hZ]; omega
  have hY1 : IntKind.i64.wrap (1 * 2 ^ (sz - 1)) = Y := by rw [IntKind.wrap_i64, ← hY]; omega
  have hY2 : IntKind.i64.wrap (2 ^ (sz - 1)) = Y := by rw [IntKind.wrap_i64, ← hY]; omega
  have hUZ : (U : Int) < Z := by omega
  have hsz1 : ((sz : Int) - 1).toNat = sz - 1 := by omega
  rw [← hZ, ← hY]
  obtain ⟨RR, hRR⟩ : ∃ RR : Int, RR = if sg = true ∧ Y ≤ (U : Int) then (U : Int) - Z else U := ⟨_, rfl⟩
  rw [← hRR]
  have HRR := Hid.mk hRR
  clear hP hD hud hR hul hpow hph hZ hY hRR
  go_enter Tryz.func46, Tryz.ntmps46
  have k0 := (HG.out).c0
  have k1 := (HG.out).c1
  have k2 := (HG.out).c2
  have k3 := (HG.out).c3
  have k4 := (HG.out).c4
  have k5 := (HG.out).c5
  have k6 := (HG.out).c6
  have k7 := (HG.out).c7
  have k8 := (HG.out).c8
  simp only at k0 k1 k2 k3 k4 k5 k6 k7 k8
  go_wp2_with fail
  with_reducible refine (HP.out _).mono ?_
  rintro e w1 ⟨g, rfl, -, hown, hb1⟩
  have HN := Hid.mk (own_place hown)
  have HB1 := Hid.mk (bl2 HB.out hb1)
  have HG1 := Hid.mk (HG.out.kept hb1)
  clear hown hb1 HB HG HP k0 k1 k2 k3 k4 k5 k6 k7 k8
  go_wp2_with fail
  go_loopw [5, 11] (fun r i wr => ∃ k u : Nat, k ≤ sz ∧ i = .int .i64 k ∧ r = .int .i64 u ∧ u < 1099511627776 ∧ Hid (u = sumK (fun i => bitN l (plN bk st sz i)) k) ∧ Hid (Below w1.heap.size w1 wr)) (fun _ i _ => sz - (intOf i).toNat)
  case atStart => exact ⟨0, 0, Nat.zero_le _, rfl, rfl, by omega, Hid.mk rfl, Hid.mk (Below.refl _ _)⟩
  case round =>
    obtain ⟨k, u, hk, rfl, rfl, hub, HUk, HBk⟩ := hrel
    by_cases hlt : k < sz
    · have hlt' : (k : Int) < (sz : Int) := by omega
      have hpc := cell_kept HBk.out (HN.out k hlt)
      have hpl := HPL.out k hlt
      have hb := bitN_lt l (plN bk st sz k)
      have hbd : bitN l (plN bk st sz k) = (l.getD (plN bk st sz k / 8) 0).toNat / 2 ^ (plN bk st sz k % 8) % 2 := rfl
      have hsum : sumK (fun i => bitN l (plN bk st sz i)) (k + 1) = sumK (fun i => bitN l (plN bk st sz i)) k + bitN l (plN bk st sz k) * 2 ^ k := rfl
      have hul : u < 2 ^ k := by rw [HUk.out]; exact sumK_lt (fun _ _ => bitN_lt _ _)
      have hk40 : 2 ^ k ≤ 2 ^ 39 := Nat.pow_le_pow_right (by omega) (by omega)
      rw [← HUk.out] at hsum
      have HSUM := Hid.mk hsum
      cases a with
      | none => exact absurd (HD.out.2.2.2.1 rfl) (by omega)
      | some x =>
        have hcell := cell_kept HBk.out (cell_kept HB1.out (HD.out.2.2.2.2 x rfl (plN bk st sz k / 8) (by omega)))
        have hc256 : (l.getD (plN bk st sz k / 8) 0).toNat < 256 := UInt8.toNat_lt _
        obtain ⟨q1, q2, q3⟩ := and_bit hc256 (show plN bk st sz k % 8 < 8 by omega)
        have q4 : (0 : Int) < 2 ^ (plN bk st sz k % 8) := Int.pow_pos (by omega)
        rw [← hbd] at q1
        generalize (l.getD (plN bk st sz k / 8) 0).toNat = c at *
        generalize bitN l (plN bk st sz k) = b at *
        generalize plN bk st sz k = p at *
        obtain ⟨B, hB⟩ : ∃ B, B = 2 ^ k := ⟨_, rfl⟩
        rw [← hB] at hul hk40 HSUM
        have hBI : (2 : Int) ^ k = (B : Int) := by rw [hB]; simp
        have hs1 : IntKind.i64.wrap (1 * 2 ^ k) = (B : Int) := by rw [hBI, IntKind.wrap_i64]; omega
        have hs2 : IntKind.i64.wrap (2 ^ k) = (B : Int) := by rw [hBI, IntKind.wrap_i64]; omega
        have hub2 : u + B < 1099511627776 := by omega
        have hp8 : ((p : Int) / 8).toNat = p / 8 := by omega
        have hp9 : ((p : Int) % 8).toNat = p % 8 := by omega
        have hpl' : (p : Int) < 8 * (len : Int) := by omega
        obtain ⟨Q, hQ⟩ : ∃ Q : Int, Q = 2 ^ (p % 8) := ⟨_, rfl⟩
        rw [← hQ] at q1 q2 q3 q4
        have q5 : IntKind.u8.wrap (1 * 2 ^ (p % 8)) = Q := by rw [Int.one_mul, ← hQ]; exact q2
        have q6 : IntKind.u8.wrap (2 ^ (p % 8)) = Q := by rw [← hQ]; exact q2
        clear hbd hsum hB hBI hul hk40 hpl hc256 hQ q2
        have hbb : b = 0 ∨ b = 1 := by omega
        clear hb
        rcases hbb with rfl | rfl
        · have r1 : bits .and .u8 (c : Int) Q = 0 := by rw [q1]; simp
          clear q1
          go_wp2_with fail
          go_quiet (fail)
          go_wp2_with fail
          go_roundw
          case rel => exact ⟨k + 1, u, by omega, by go_num, rfl, hub, Hid.mk (by rw [HSUM.out]; omega), Hid.mk (drB HBk.out _)⟩
          case measure => simp [intOf]; omega
        · have r1 : bits .and .u8 (c : Int) Q = Q := by rw [q1]; simp
          have r2 : (Q != 0) = true := by simp; omega
          clear q1
          go_wp2_with fail
          go_quiet (fail)
          go_wp2_with fail
          go_roundw
          case rel => exact ⟨k + 1, u + B, by omega, by go_num, by go_num, hub2, Hid.mk (by rw [HSUM.out]; omega), Hid.mk (drB HBk.out _)⟩
          case measure => simp [intOf]; omega
    · have e : k = sz := by omega
      subst e
      have hUu : u = U := by rw [HU.out]; exact HUk.out
      subst hUu
      have HG2 := Hid.mk (HG1.out.kept HBk.out)
      have HB2 := Hid.mk (bl2 HB1.out HBk.out)
      obtain ⟨c0, c1, c2, c3, c4, c5, c6, c7, c8⟩ := HG2.out
      simp only at c0 c1 c2 c3 c4 c5 c6 c7 c8
      clear HG1 HB1 HBk HUk HU HN HD HPL
      cases sg with
      | false =>
        have hr : RR = (u : Int) := by rw [HRR.out, if_neg (by simp)]
        have HR := Hid.mk hr
        clear hr HRR
        go_wp2_with fail
        go_ret
        exact ⟨by rw [HR.out]; rfl, HB2.out⟩
      | true =>
        by_cases hyu : Y ≤ (u : Int)
        · have hr : RR = (u : Int) - Z := by rw [HRR.out, if_pos ⟨rfl, hyu⟩]
          have HR := Hid.mk hr
          clear hr HRR
          go_wp2_with fail
          go_ret
          exact ⟨by rw [HR.out]; rfl, HB2.out⟩
        · have hr : RR = (u : Int) := by rw [HRR.out, if_neg (fun h => hyu h.2)]
          have HR := Hid.mk hr
          clear hr HRR
          have hyd : decide (Y ≤ (u : Int)) = false := by simpa using hyu
          go_wp2_with fail
          go_ret
          exact ⟨by rw [HR.out]; rfl, HB2.out⟩
end Bw
end Go.Proofs.YtjgliinpaadbnaaGreatDoor
