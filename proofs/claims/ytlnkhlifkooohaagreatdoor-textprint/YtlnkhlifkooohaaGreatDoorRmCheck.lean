/- What the document's CheckMessage answers. -/
import Derived.Test.YtlnkhlifkooohaaGreatDoorMgCheckA
import Derived.Test.YtlnkhlifkooohaaGreatDoorRsCheck
import Derived.Test.YtlnkhlifkooohaaGreatDoorRsOver
namespace Go.Proofs.YtlnkhlifkooohaaGreatDoor
open Go.ChangeShapes Go.WideShapes Go.ChangeAt Go.RowKit
namespace Bw
open Sm
/-- what the document's CheckFrame answers, as a premise -/
def CheckFM : Prop := ∀ (id : Int) (lo fa re : Bool) (sz : Int) (a : Option Addr) (len cap : Nat) (w : World), len ≤ 9223372036854775807 →
    Calls Tryz.prog 14 #[frameV id lo fa re sz a len cap] w fun e w' => e = .returned (.int .i64 (frEn id lo fa re sz len)) ∧ Below w.heap.size w w'
theorem ovS_comm (a b : Sig) : ovS a b = ovS b a := by
  have h : ∀ x y : Sig, ovS x y = true → ovS y x = true := by
    intro x y h
    unfold ovS ovN at h
    rw [List.any_eq_true] at h
    obtain ⟨j, hj, h⟩ := h
    rw [List.any_eq_true] at h
    obtain ⟨i, hi, h⟩ := h
    exact ovN_yes (List.mem_range.1 hj) (List.mem_range.1 hi) (by simpa using (beq_iff_eq.1 h).symm)
  cases h1 : ovS a b with
  | true => exact (h a b h1).symm
  | false =>
    cases h2 : ovS b a with
    | false => rfl
    | true => rw [h b a h2] at h1; cases h1
theorem nevB_comm (a b : Sig) : nevB a b = nevB b a := by
  unfold nevB
  rw [show (a.ky == b.ky) = (b.ky == a.ky) by rw [Bool.beq_comm]]
  cases decide (0 ≤ a.ky) <;> cases decide (0 ≤ b.ky) <;> rfl
theorem besE_turn (a b : Sig) : besE a b = if b.nm = a.nm then 9 else if (!nevB b a && ovS b a) = true then 10 else 0 := by
  unfold besE
  rw [ovS_comm a b, nevB_comm a b, Bool.and_comm]
  by_cases h : a.nm = b.nm
  · rw [if_pos h, if_pos h.symm]
  · simp only [if_neg h, if_neg (fun e => h e.symm : ¬ b.nm = a.nm)]
theorem st_small {s : Sig} {st sz n : Nat} (hR : Rt s st sz n) : st ≤ 1000 := by
  have h1 := hR.st_lt
  have h2 := hR.n64
  omega
theorem overD_is (a b : Sig) (w : World) {n : Nat} (ha : chkS a n = 0) (hb : chkS b n = 0) :
    Calls Tryz.prog 34 #[sgV a, sgV b] w fun e w' => e = .returned (.bool (ovS a b)) ∧ Below w.heap.size w w' := by
  obtain ⟨st, sz, hR⟩ := right_of ha
  obtain ⟨st', sz', hR'⟩ := right_of hb
  have := overOf_any a b st sz st' sz' w hR.hst hR.hsz (st_small hR) hR.s1 hR.s40 hR'.hst hR'.hsz (st_small hR') hR'.s1 hR'.s40
  unfold ovS
  rw [hR.hst, hR.hsz, hR'.hst, hR'.hsz, Int.toNat_natCast, Int.toNat_natCast, Int.toNat_natCast, Int.toNat_natCast]
  exact this
theorem ky_low {s : Sig} {n : Int} (h : chkS s n = 0) : -1 ≤ s.ky := by
  obtain ⟨_, _, h3, _⟩ := chk_size h
  unfold numB at h3
  simp only [Bool.and_eq_true] at h3
  exact (inB_iff.1 h3.2.2.2.2.2).1
set_option maxHeartbeats 32000000 in
set_option maxRecDepth 100000 in
theorem checkMessage_any (hCF : CheckFM) (v : MsV) (w : World) (hM : MsIn w v) :
    Calls Tryz.prog 8 #[msV v] w fun e w' => e = .returned (.int .i64 (chkM v.m)) ∧ Below w.heap.size w w' := by
  have HBX := Hid.mk (ms_box w v)
  have HAT := Hid.mk (MsAt.box w v)
  have HN := Hid.mk (fun W => isName_any v.m.nm W hM.nm)
  have HFR := Hid.mk (fun W => hCF v.m.id v.m.lo false false 0 none 0 0 W (Nat.zero_le _))
  have hlen : v.m.sigs.length = v.n := hM.row.len
  have hn : (v.n : Int) ≤ 9223372036854775807 := by have h1 := hM.row.le; have h2 := hM.row.max; unfold maxLen at h2; omega
  have hwf : ∀ i, i < v.n → wfS (v.m.at i) := fun i hi => hM.wf _ (v.m.mem (by rw [hlen]; exact hi))
  have HC := Hid.mk (fun i (hi : i < v.n) W => checkSignal_any (v.m.at i) v.m.size W (hwf i hi))
  have HOV := Hid.mk (fun i j (h0 : 0 ≤ v.m.size) (h1 : chkS (v.m.at i) v.m.size = 0) (h2 : chkS (v.m.at j) v.m.size = 0) W => overD_is (v.m.at i) (v.m.at j) W (n := v.m.size.toNat) (by rw [Int.toNat_of_nonneg h0]; exact h1) (by rw [Int.toNat_of_nonneg h0]; exact h2))
  have HROW := Hid.mk hM.row
  have HSE : Hid (∀ i, sigE v.m i = if chkS (v.m.at i) v.m.size = 0 then firstE (fun j => besE (v.m.at j) (v.m.at i)) i else chkS (v.m.at i) v.m.size) := Hid.mk (fun i => rfl)
  have HGD : Hid (∀ i, v.m.at i = v.m.sigs.getD i noS) := Hid.mk (fun _ => rfl)
  have hR : chkM v.m = (if nameB v.m.nm.data.toList = false then 1
  else if frEn v.m.id v.m.lo false false 0 0 ≠ 0 then frEn v.m.id v.m.lo false false 0 0
  else if v.m.size < 0 ∨ 8 < v.m.size then 3
  else if 16 < v.n then 2
  else if firstE (sigE v.m) v.n ≠ 0 then firstE (sigE v.m) v.n
  else if v.m.ch < -1 ∨ (v.n : Int) ≤ v.m.ch then 8
  else if wellB v.m = false then 4 else 0) := by unfold chkM sigsE; rw [hlen]
  have HANY : Hid (∀ (t : Int), (∀ j, j < v.n → ¬ (t < (v.m.at j).ky)) → (v.m.sigs.any fun s => decide (t < s.ky)) = false) := Hid.mk (fun t h => by
    rw [List.any_eq_false]
    intro s hs
    obtain ⟨i, hi, rfl⟩ := List.getElem_of_mem hs
    have := h i (by omega)
    unfold Msg.at at this
    rw [getD_at hi] at this
    simpa using this)
  have HANY2 : Hid (∀ (t : Int) j, j < v.n → t < (v.m.at j).ky → (v.m.sigs.any fun s => decide (t < s.ky)) = true) := Hid.mk (fun t j hj h => by
    rw [List.any_eq_true]
    exact ⟨_, v.m.mem (by rw [hlen]; exact hj), by simpa using h⟩)
  have HWN : Hid (v.m.ch < 0 → wellB v.m = !(v.m.sigs.any fun s => decide (-1 < s.ky))) := Hid.mk (fun hc => by
    unfold wellB mostI
    rw [if_neg (by omega)]
    simp [hc])
  have HWF : Hid (0 ≤ v.m.ch → chooB (v.m.at v.m.ch.toNat) = false → wellB v.m = false) := Hid.mk (fun hc hb => by
    unfold wellB
    rw [hb]
    have : ¬ v.m.ch < 0 := by omega
    simp [this])
  have HWS : Hid (0 ≤ v.m.ch → chooB (v.m.at v.m.ch.toNat) = true → wellB v.m = !(v.m.sigs.any fun s => decide (((2 ^ (v.m.at v.m.ch.toNat).sz.toNat : Nat) : Int) - 1 < s.ky))) := Hid.mk (fun hc hb => by
    unfold wellB mostI
    rw [hb, if_pos hc]
    simp)
  rw [hR]
  clear hR hlen hwf hM
  generalize nameB v.m.nm.data.toList = NB at *
  generalize frEn v.m.id v.m.lo false false 0 0 = FE at *
  generalize wellB v.m = WB at *
  generalize hS : v.m.at = S at *
  generalize hG : sigE v.m = G at *
  clear hS hG
  obtain ⟨⟨mid, mlo, mnm, size, mch, sigs⟩, ma, mn, mcap⟩ := v
  unfold msC at HBX HAT
  unfold msV
  unfold frameV at HFR
  simp only at HBX HAT HN HFR hn HC HOV HROW HSE HGD HANY HANY2 HWN HWF HWS ⊢
  generalize hany : (fun t : Int => sigs.any fun s => decide (t < s.ky)) = ANY at *
  have HAE : Hid (∀ t, (sigs.any fun s => decide (t < s.ky)) = ANY t) := Hid.mk (fun t => by rw [← hany])
  clear hany
  simp only [HAE.out] at HANY HANY2 HWN HWS
  clear HAE
  cases NB with
  | false =>
    rw [if_pos rfl]
    go_enter Tryz.func8, Tryz.ntmps8
    go_wp2_with fail
    refine (HN.out _).mono ?_
    rintro e w1 ⟨rfl, hb1⟩
    have HB1 := Hid.mk (bl2 HBX.out hb1)
    have HA1 := Hid.mk (HAT.out.kept hb1)
    obtain ⟨m0, m1, m2, m3, m4, m5⟩ := HA1.out
    simp only at m0 m1 m2 m3 m4 m5
    clear hb1
    go_wp2_with fail
    go_ret
    exact ⟨rfl, HB1.out⟩
  | true =>
    rw [if_neg (by simp)]
    by_cases h1 : FE = 0
    case neg =>
      rw [if_pos h1]
      have hne : (FE != 0) = true := by simpa using h1
      clear h1
      go_enter Tryz.func8, Tryz.ntmps8
      go_wp2_with fail
      refine (HN.out _).mono ?_
      rintro e w1 ⟨rfl, hb1⟩
      have HB1 := Hid.mk (bl2 HBX.out hb1)
      have HA1 := Hid.mk (HAT.out.kept hb1)
      obtain ⟨m0, m1, m2, m3, m4, m5⟩ := HA1.out
      simp only at m0 m1 m2 m3 m4 m5
      clear hb1
      go_wp2_with fail
      refine (HFR.out _).mono ?_
      rintro e w2 ⟨rfl, hb2⟩
      have HB2 := Hid.mk (bl2 HB1.out hb2)
      have HA2 := Hid.mk (HA1.out.kept hb2)
      obtain ⟨m0, m1, m2, m3, m4, m5⟩ := HA2.out
      simp only at m0 m1 m2 m3 m4 m5
      clear hb2
      go_wp2_with fail
      go_ret
      exact ⟨rfl, HB2.out⟩
    case pos =>
    subst h1
    rw [if_neg (by simp)]
    by_cases h2 : size < 0 ∨ 8 < size
    · rw [if_pos h2]
      go_enter Tryz.func8, Tryz.ntmps8
      go_wp2_with fail
      refine (HN.out _).mono ?_
      rintro e w1 ⟨rfl, hb1⟩
      have HB1 := Hid.mk (bl2 HBX.out hb1)
      have HA1 := Hid.mk (HAT.out.kept hb1)
      obtain ⟨m0, m1, m2, m3, m4, m5⟩ := HA1.out
      simp only at m0 m1 m2 m3 m4 m5
      clear hb1
      go_wp2_with fail
      refine (HFR.out _).mono ?_
      rintro e w2 ⟨rfl, hb2⟩
      have HB2 := Hid.mk (bl2 HB1.out hb2)
      have HA2 := Hid.mk (HA1.out.kept hb2)
      obtain ⟨m0, m1, m2, m3, m4, m5⟩ := HA2.out
      simp only at m0 m1 m2 m3 m4 m5
      clear hb2
      by_cases h3 : size < 0
      · clear h2
        go_wp2_with fail
        go_ret
        exact ⟨rfl, HB2.out⟩
      · have h4 : 8 < size := by omega
        clear h2
        go_wp2_with fail
        go_ret
        exact ⟨rfl, HB2.out⟩
    rw [if_neg h2]
    have s0 : 0 ≤ size := by omega
    have s8 : size ≤ 8 := by omega
    clear h2
    generalize hRR : (if 16 < mn then (2 : Int) else if firstE G mn ≠ 0 then firstE G mn else if mch < -1 ∨ (mn : Int) ≤ mch then 8 else if WB = false then 4 else 0) = R
    have HR := Hid.mk hRR
    clear hRR
    go_enter Tryz.func8, Tryz.ntmps8
    go_wp2_with fail
    refine (HN.out _).mono ?_
    rintro e w1 ⟨rfl, hb1⟩
    have HB1 := Hid.mk (bl2 HBX.out hb1)
    have HA1 := Hid.mk (HAT.out.kept hb1)
    obtain ⟨m0, m1, m2, m3, m4, m5⟩ := HA1.out
    simp only at m0 m1 m2 m3 m4 m5
    clear hb1
    go_wp2_with fail
    refine (HFR.out _).mono ?_
    rintro e w2 ⟨rfl, hb2⟩
    have HB2 := Hid.mk (bl2 HB1.out hb2)
    have HA2 := Hid.mk (HA1.out.kept hb2)
    obtain ⟨m0, m1, m2, m3, m4, m5⟩ := HA2.out
    simp only at m0 m1 m2 m3 m4 m5
    clear hb2
    by_cases h3 : 16 < mn
    · have HV : Hid (R = 2) := Hid.mk (by rw [← HR.out, if_pos h3])
      have h3' : (16 : Int) < (mn : Int) := by omega
      clear h3
      go_wp2_with fail
      go_ret
      exact ⟨by rw [HV.out]; rfl, HB2.out⟩
    have HR1 : Hid (R = if firstE G mn ≠ 0 then firstE G mn else if mch < -1 ∨ (mn : Int) ≤ mch then 8 else if WB = false then 4 else 0) := Hid.mk (by rw [← HR.out, if_neg h3])
    have h3' : (mn : Int) ≤ 16 := by omega
    clear h3 HR
    go_wp2_with fail
    go_loopw [41] (fun i wr => ∃ k : Nat, k ≤ mn ∧ i = .int .i64 k ∧ Hid (firstE G k = 0) ∧ Hid (∀ j, j < k → chkS (S j) size = 0) ∧ Hid (MsAt wr w.heap.size ⟨⟨mid, mlo, mnm, size, mch, sigs⟩, ma, mn, mcap⟩) ∧ Hid (Below w.heap.size w wr)) (fun i _ => mn - (intOf i).toNat)
    case atStart => exact ⟨0, Nat.zero_le _, rfl, Hid.mk rfl, Hid.mk (fun j hj => absurd hj (Nat.not_lt_zero _)), HA2, HB2⟩
    case round =>
      obtain ⟨k, hk, rfl, HF, HJ, HA, HB⟩ := hrel
      by_cases hlt : k < mn
      · have hlt' : (k : Int) < (mn : Int) := by omega
        obtain ⟨x, hx⟩ := HROW.out.some hlt
        cases hx
        have hSg := (HROW.out.kept HB.out).at hlt
        rw [← HGD.out] at hSg
        have HBX1 := Hid.mk (sg_box wr (S k))
        have HSAT := Hid.mk (SgAt.box wr (S k))
        have HCk := Hid.mk (HC.out k hlt)
        have HSE1 := Hid.mk (HSE.out k)
        have HOK := Hid.mk (fun q (h1 : chkS (S k) size = 0) (h2 : chkS (S q) size = 0) W => HOV.out k q s0 h1 h2 W)
        have HBT := Hid.mk (fun q => besE_turn (S q) (S k))
        have HSK : Hid (∃ y, y = S k) := Hid.mk ⟨_, rfl⟩
        obtain ⟨sk, hsk⟩ := HSK.out
        rw [← hsk] at hSg HCk
        simp only [← hsk] at HBX1 HSAT HSE1 HOK HBT
        have HSKE := Hid.mk hsk
        clear hsk HSK
        obtain ⟨nm, st, sz, bk, sg, mu, di, ad, ky⟩ := sk
        unfold sgC at HBX1 HSAT
        unfold sgV at HCk
        simp only at HBX1 HSAT HCk HSE1
        obtain ⟨s0', s1, s2, s3, s4, s5, s6, s7, s8'⟩ := hSg
        simp only at s0' s1 s2 s3 s4 s5 s6 s7 s8'
        have HA1k := Hid.mk (HA.out.kept HBX1.out)
        obtain ⟨m0, m1, m2, m3, m4, m5⟩ := HA1k.out
        simp only at m0 m1 m2 m3 m4 m5
        generalize hE : chkS ⟨nm, st, sz, bk, sg, mu, di, ad, ky⟩ size = E at *
        have HE := Hid.mk hE
        clear hE
        by_cases hE0 : E = 0
        case neg =>
          have hne : (E != 0) = true := by simpa using hE0
          have HGk : Hid (G k = E) := Hid.mk (by rw [HSE1.out, if_neg hE0])
          have HE0 := Hid.mk hE0
          clear hE0
          go_wp2_with fail
          refine (HCk.out _).mono ?_
          rintro e w3 ⟨rfl, hb3⟩
          have HB3 := Hid.mk (bl2 HB.out (bl2 HBX1.out hb3))
          clear hb3
          go_wp2_with fail
          go_ret
          have hf : firstE G mn = E := by rw [firstE_hit HF.out (by rw [HGk.out]; exact HE0.out) hlt, HGk.out]
          exact ⟨by rw [HR1.out, hf, if_pos HE0.out]; rfl, HB3.out⟩
        case pos =>
        subst hE0
        have HSE2 : Hid (G k = firstE (fun j => besE (S j) ⟨nm, st, sz, bk, sg, mu, di, ad, ky⟩) k) := Hid.mk (by
          have h9 := HSE1.out
          simp only [if_true] at h9
          exact h9)
        clear HSE1
        go_wp2_with fail
        refine (HCk.out _).mono ?_
        rintro e w3 ⟨rfl, hb3⟩
        have HB3 := Hid.mk (bl2 HB.out (bl2 HBX1.out hb3))
        have HA3 := Hid.mk (HA1k.out.kept hb3)
        have HS3 := Hid.mk (HSAT.out.kept hb3)
        obtain ⟨m0, m1, m2, m3, m4, m5⟩ := HA3.out
        simp only at m0 m1 m2 m3 m4 m5
        have hle := HROW.out.le
        have hkc : k ≤ mcap := by omega
        have hkc' : (k : Int) ≤ (mcap : Int) := by omega
        clear hb3 HCk s0' s1 s2 s3 s4 s5 s6 s7 s8' hle
        go_wp2_with fail
        go_loopw [58] (fun i wr => ∃ q : Nat, q ≤ k ∧ i = .int .i64 q ∧ Hid (firstE (fun j => besE (S j) ⟨nm, st, sz, bk, sg, mu, di, ad, ky⟩) q = 0) ∧ Hid (Below w3.heap.size w3 wr)) (fun i _ => k - (intOf i).toNat)
        case atStart => exact ⟨0, Nat.zero_le _, rfl, Hid.mk rfl, Hid.mk (Below.refl _ _)⟩
        case round =>
          obtain ⟨q, hq, rfl, HQ, HBq⟩ := hrel
          by_cases hlq : q < k
          · have hlq' : (q : Int) < (k : Int) := by omega
            have hqn : q < mn := by omega
            have hSg := (HROW.out.kept (bl2 HB3.out HBq.out)).at hqn
            rw [← HGD.out] at hSg
            have HBX2 := Hid.mk (sg_box wr (S q))
            have HSAT2 := Hid.mk (SgAt.box wr (S q))
            have HOq := Hid.mk (HOK.out q (by first | trivial | rw [HE.out]) (HJ.out q hlq))
            have HBq2 := Hid.mk (HBT.out q)
            have HSK : Hid (∃ y, y = S q) := Hid.mk ⟨_, rfl⟩
            obtain ⟨sq, hsq⟩ := HSK.out
            rw [← hsq] at hSg HBq2
            simp only [← hsq] at HBX2 HSAT2 HOq
            have HSQE := Hid.mk hsq
            clear hsq HSK
            generalize hOVV : ovS ⟨nm, st, sz, bk, sg, mu, di, ad, ky⟩ sq = OVV at *
            have HNEV : Hid (nevB ⟨nm, st, sz, bk, sg, mu, di, ad, ky⟩ sq = (decide (0 ≤ ky) && (decide (0 ≤ sq.ky) && !(ky == sq.ky)))) := Hid.mk rfl
            obtain ⟨nm', st', sz', bk', sg', mu', di', ad', ky'⟩ := sq
            unfold sgC at HBX2 HSAT2
            unfold sgV at HOq
            simp only at HBX2 HSAT2 HOq HBq2 HNEV
            generalize nevB ⟨nm, st, sz, bk, sg, mu, di, ad, ky⟩ ⟨nm', st', sz', bk', sg', mu', di', ad', ky'⟩ = NV at *
            clear hOVV
            obtain ⟨t0, t1, t2, t3, t4, t5, t6, t7, t8⟩ := hSg
            simp only at t0 t1 t2 t3 t4 t5 t6 t7 t8
            obtain ⟨s0', s1, s2, s3, s4, s5, s6, s7, s8'⟩ := (HS3.out.kept HBq.out).kept HBX2.out
            simp only at s0' s1 s2 s3 s4 s5 s6 s7 s8'
            have HGE : Hid (∀ V, besE (S q) ⟨nm, st, sz, bk, sg, mu, di, ad, ky⟩ = V → V ≠ 0 → R = V) := Hid.mk (fun V hV hV0 => by
              have hh : firstE (fun j => besE (S j) ⟨nm, st, sz, bk, sg, mu, di, ad, ky⟩) k = V := by
                rw [firstE_hit HQ.out (by rw [hV]; exact hV0) hlq, hV]
              have hGk : G k = V := by rw [HSE2.out]; exact hh
              have hf : firstE G mn = V := by rw [firstE_hit HF.out (by rw [hGk]; exact hV0) hlt, hGk]
              rw [HR1.out, hf, if_pos hV0])
            rw [← HSQE.out] at HGE
            by_cases hnm : nm = nm'
            · have e0 := str_yes hnm
              have HV : Hid (R = 9) := Hid.mk (HGE.out 9 (by rw [HBq2.out, if_pos hnm]) (by decide))
              clear hnm
              go_wp2_with fail
              go_ret
              exact ⟨by rw [HV.out]; rfl, bl2 HB3.out (bl2 HBq.out HBX2.out)⟩
            · have e0 := str_no hnm
              have HBV : Hid (besE (S q) ⟨nm, st, sz, bk, sg, mu, di, ad, ky⟩ = if (!NV && OVV) = true then 10 else 0) := Hid.mk (by rw [← HSQE.out, HBq2.out, if_neg hnm])
              clear hnm
              by_cases hN1 : 0 ≤ ky ∧ 0 ≤ ky' ∧ ky ≠ ky'
              · obtain ⟨n1, n2, n3⟩ := hN1
                have n3' : (ky == ky') = false := by simpa using n3
                have HNV : Hid (NV = true) := Hid.mk (by rw [HNEV.out, n3']; simp [n1, n2])
                go_wp2_with fail
                go_roundw
                case rel => exact ⟨q + 1, by omega, by go_num, Hid.mk (firstE_step HQ.out (by rw [HBV.out, HNV.out]; rfl)), Hid.mk (bl2 HBq.out HBX2.out)⟩
                case measure => simp [intOf]; omega
              · have HNV : Hid (NV = false) := Hid.mk (by
                  rw [HNEV.out]
                  by_cases a1 : 0 ≤ ky
                  · by_cases a2 : 0 ≤ ky'
                    · have a3 : ky = ky' := Decidable.not_not.1 (fun h => hN1 ⟨a1, a2, h⟩)
                      simp [a3]
                    · simp [a2]
                  · simp [a1])
                have hNC : ¬ (0 ≤ ky) ∨ (0 ≤ ky ∧ ¬ (0 ≤ ky')) ∨ (0 ≤ ky ∧ 0 ≤ ky' ∧ ky = ky') := by
                  by_cases a1 : 0 ≤ ky
                  · by_cases a2 : 0 ≤ ky'
                    · exact .inr (.inr ⟨a1, a2, Decidable.not_not.1 (fun h => hN1 ⟨a1, a2, h⟩)⟩)
                    · exact .inr (.inl ⟨a1, a2⟩)
                  · exact .inl a1
                clear hN1
                have HBV2 : Hid (besE (S q) ⟨nm, st, sz, bk, sg, mu, di, ad, ky⟩ = if OVV = true then 10 else 0) := Hid.mk (by rw [HBV.out, HNV.out]; rfl)
                have HV10 : Hid (OVV = true → R = 10) := Hid.mk (fun h => HGE.out 10 (by have h9 := HBV2.out; rw [← HSQE.out] at h9; rw [h9, if_pos h]) (by decide))
                clear HBV HNV HNEV HGE
                rcases hNC with a1 | ⟨a1, a2⟩ | ⟨a1, a2, a3⟩
                · cases OVV with
                  | true =>
                    have HV := Hid.mk (HV10.out rfl)
                    go_wp2_with fail
                    refine (HOq.out _).mono ?_
                    rintro e w5 ⟨rfl, hb5⟩
                    have HB5 := Hid.mk (bl2 HB3.out (bl2 HBq.out (bl2 HBX2.out hb5)))
                    clear hb5
                    go_wp2_with fail
                    go_ret
                    exact ⟨by rw [HV.out]; rfl, HB5.out⟩
                  | false =>
                    go_wp2_with fail
                    refine (HOq.out _).mono ?_
                    rintro e w5 ⟨rfl, hb5⟩
                    have HB5 := Hid.mk (bl2 HBq.out (bl2 HBX2.out hb5))
                    clear hb5
                    go_wp2_with fail
                    go_roundw
                    case rel => exact ⟨q + 1, by omega, by go_num, Hid.mk (firstE_step HQ.out (by rw [HBV2.out]; rfl)), HB5⟩
                    case measure => simp [intOf]; omega
                · cases OVV with
                  | true =>
                    have HV := Hid.mk (HV10.out rfl)
                    go_wp2_with fail
                    refine (HOq.out _).mono ?_
                    rintro e w5 ⟨rfl, hb5⟩
                    have HB5 := Hid.mk (bl2 HB3.out (bl2 HBq.out (bl2 HBX2.out hb5)))
                    clear hb5
                    go_wp2_with fail
                    go_ret
                    exact ⟨by rw [HV.out]; rfl, HB5.out⟩
                  | false =>
                    go_wp2_with fail
                    refine (HOq.out _).mono ?_
                    rintro e w5 ⟨rfl, hb5⟩
                    have HB5 := Hid.mk (bl2 HBq.out (bl2 HBX2.out hb5))
                    clear hb5
                    go_wp2_with fail
                    go_roundw
                    case rel => exact ⟨q + 1, by omega, by go_num, Hid.mk (firstE_step HQ.out (by rw [HBV2.out]; rfl)), HB5⟩
                    case measure => simp [intOf]; omega
                · subst a3
                  cases OVV with
                    | true =>
                      have HV := Hid.mk (HV10.out rfl)
                      go_wp2_with fail
                      refine (HOq.out _).mono ?_
                      rintro e w5 ⟨rfl, hb5⟩
                      have HB5 := Hid.mk (bl2 HB3.out (bl2 HBq.out (bl2 HBX2.out hb5)))
                      clear hb5
                      go_wp2_with fail
                      go_ret
                      exact ⟨by rw [HV.out]; rfl, HB5.out⟩
                    | false =>
                      go_wp2_with fail
                      refine (HOq.out _).mono ?_
                      rintro e w5 ⟨rfl, hb5⟩
                      have HB5 := Hid.mk (bl2 HBq.out (bl2 HBX2.out hb5))
                      clear hb5
                      go_wp2_with fail
                      go_roundw
                      case rel => exact ⟨q + 1, by omega, by go_num, Hid.mk (firstE_step HQ.out (by rw [HBV2.out]; rfl)), HB5⟩
                      case measure => simp [intOf]; omega
          · have e : q = k := by omega
            subst e
            go_wp2_with fail
            go_roundw
            case rel =>
              refine ⟨q + 1, by omega, by go_num, Hid.mk (firstE_step HF.out ?_), Hid.mk (fun j hj => ?_), Hid.mk (HA3.out.kept HBq.out), Hid.mk (bl2 HB3.out HBq.out)⟩
              · rw [HSE2.out]; exact HQ.out
              · rcases Nat.lt_or_ge j q with h | h
                · exact HJ.out j h
                · have e9 : j = q := by omega
                  subst e9
                  rw [← HSKE.out]; exact HE.out
            case measure => simp [intOf]; omega
      · have e : k = mn := by omega
        subst e
        have HR2 : Hid (R = if mch < -1 ∨ (k : Int) ≤ mch then 8 else if WB = false then 4 else 0) := Hid.mk (by rw [HR1.out, HF.out, if_neg (by simp)])
        obtain ⟨m0, m1, m2, m3, m4, m5⟩ := HA.out
        simp only at m0 m1 m2 m3 m4 m5
        clear HR1 hlt
        by_cases h5 : mch < -1 ∨ (k : Int) ≤ mch
        · have HV : Hid (R = 8) := Hid.mk (by rw [HR2.out, if_pos h5])
          clear HR2
          by_cases h6 : mch < -1
          · clear h5
            go_wp2_with fail
            go_ret
            exact ⟨by rw [HV.out]; rfl, HB.out⟩
          · have h7 : (k : Int) ≤ mch := by omega
            clear h5
            go_wp2_with fail
            go_ret
            exact ⟨by rw [HV.out]; rfl, HB.out⟩
        have HR3 : Hid (R = if WB = false then 4 else 0) := Hid.mk (by rw [HR2.out, if_neg h5])
        have h6 : -1 ≤ mch := by omega
        have h7 : mch < (k : Int) := by omega
        clear h5 HR2
        by_cases h8 : mch < 0
        · have HBAD : Hid (∀ q, q < k → -1 < (S q).ky → R = 4) := Hid.mk (fun q hq h => by rw [HR3.out, HWN.out h8, HANY2.out (-1) q hq h]; rfl)
          have HGOOD : Hid ((∀ j, j < k → ¬ (-1 < (S j).ky)) → R = 0) := Hid.mk (fun h => by rw [HR3.out, HWN.out h8, HANY.out (-1) (fun j hj => Int.not_lt.1 (h j hj))]; rfl)
          obtain ⟨W0, hW0⟩ : ∃ W0, W0 = wr := ⟨_, rfl⟩
          subst hW0
          go_wp2_with fail
          go_loopw [129] (fun i wr => ∃ q : Nat, q ≤ k ∧ i = .int .i64 q ∧ Hid (∀ j, j < q → ¬ (-1 < (S j).ky)) ∧ Hid (Below W0.heap.size W0 wr)) (fun i _ => k - (intOf i).toNat)
          case atStart => exact ⟨0, Nat.zero_le _, rfl, Hid.mk (fun j hj => absurd hj (Nat.not_lt_zero _)), Hid.mk (Below.refl _ _)⟩
          case round =>
            obtain ⟨q, hq, rfl, HQ, HBq⟩ := hrel
            by_cases hlq : q < k
            · have hlq' : (q : Int) < (k : Int) := by omega
              obtain ⟨x, hx⟩ := HROW.out.some hlq
              cases hx
              have hSg := (HROW.out.kept (bl2 HB.out HBq.out)).at hlq
              rw [← HGD.out] at hSg
              have HBX1 := Hid.mk (sg_box wr (S q))
              have HSK : Hid (∃ y, y = S q) := Hid.mk ⟨_, rfl⟩
              obtain ⟨sk, hsk⟩ := HSK.out
              rw [← hsk] at hSg
              simp only [← hsk] at HBX1
              have HSKE := Hid.mk hsk
              clear hsk HSK
              obtain ⟨nm, st, sz, bk, sg, mu, di, ad, ky⟩ := sk
              unfold sgC at HBX1
              simp only at HBX1 HSKE
              obtain ⟨s0, s1, s2, s3, s4, s5, s6, s7, s8⟩ := hSg
              simp only at s0 s1 s2 s3 s4 s5 s6 s7 s8
              by_cases hky : -1 < ky
              · have HKY := Hid.mk hky
                go_wp2_with fail
                go_ret
                exact ⟨by rw [HBAD.out q hlq (by rw [← HSKE.out]; exact HKY.out)]; rfl, bl2 HB.out (bl2 HBq.out HBX1.out)⟩
              · have HKY := Hid.mk hky
                go_wp2_with fail
                go_roundw
                case rel => exact ⟨q + 1, by omega, by go_num, Hid.mk (fun j hj => by
                  rcases Nat.lt_or_ge j q with h | h
                  · exact HQ.out j h
                  · have e9 : j = q := by omega
                    subst e9
                    rw [← HSKE.out]; exact HKY.out), Hid.mk (bl2 HBq.out HBX1.out)⟩
                case measure => simp [intOf]; omega
            · have e : q = k := by omega
              subst e
              go_wp2_with fail
              go_ret
              exact ⟨by rw [HGOOD.out HQ.out]; rfl, bl2 HB.out HBq.out⟩

        · have h8' : 0 ≤ mch := by omega
          clear h8
          obtain ⟨c, hc⟩ : ∃ c : Nat, mch = c := ⟨mch.toNat, by omega⟩
          subst hc
          simp only [Int.toNat_natCast] at HWF HWS
          have hcn : c < k := by omega
          have HCK := Hid.mk (HJ.out c hcn)
          obtain ⟨x, hx⟩ := HROW.out.some hcn
          cases hx
          have hSg := (HROW.out.kept HB.out).at hcn
          rw [← HGD.out] at hSg
          have HBX1 := Hid.mk (sg_box wr (S c))
          have HSAT := Hid.mk (SgAt.box wr (S c))
          have HCB : Hid (chooB (S c) = (!(S c).sg && (decide ((S c).ky < 0) && decide ((S c).sz ≤ 8)))) := Hid.mk rfl
          have hkl := ky_low HCK.out
          have hs1 := sz_one HCK.out
          have HAW := Hid.mk (HA.out.kept HBX1.out)
          generalize S c = sc at *
          obtain ⟨nm, st, sz, bk, sg, mu, di, ad, ky⟩ := sc
          unfold sgC at HBX1 HSAT HAW
          simp only at HBX1 HSAT HCB HWF HWS HAW hkl hs1
          obtain ⟨s0', s1, s2, s3, s4, s5, s6, s7, s8'⟩ := hSg
          simp only at s0' s1 s2 s3 s4 s5 s6 s7 s8'
          obtain ⟨t0, t1, t2, t3, t4, t5, t6, t7, t8⟩ := HSAT.out
          simp only at t0 t1 t2 t3 t4 t5 t6 t7 t8
          generalize chooB ⟨nm, st, sz, bk, sg, mu, di, ad, ky⟩ = CB at *
          cases sg with
          | true =>
            have HV : Hid (R = 4) := Hid.mk (by rw [HR3.out, HWF.out h8' (by rw [HCB.out]; rfl)]; rfl)
            go_wp2_with fail
            go_ret
            exact ⟨by rw [HV.out]; rfl, bl2 HB.out HBX1.out⟩
          | false =>
            by_cases hky : ky = -1
            case neg =>
              have hkb : (ky != -1) = true := by simpa using hky
              have HV : Hid (R = 4) := Hid.mk (by
                have e1 : decide (ky < 0) = false := by simp; omega
                rw [HR3.out, HWF.out h8' (by rw [HCB.out, e1]; rfl)]; rfl)
              clear hky
              go_wp2_with fail
              go_ret
              exact ⟨by rw [HV.out]; rfl, bl2 HB.out HBX1.out⟩
            case pos =>
            subst hky
            by_cases hz8 : sz ≤ 8
            case neg =>
              have hz8' : 8 < sz := by omega
              have HV : Hid (R = 4) := Hid.mk (by
                have e1 : decide (sz ≤ 8) = false := by simp; omega
                rw [HR3.out, HWF.out h8' (by rw [HCB.out, e1]; simp)]; rfl)
              clear hz8
              go_wp2_with fail
              go_ret
              exact ⟨by rw [HV.out]; rfl, bl2 HB.out HBX1.out⟩
            case pos =>
            obtain ⟨z, hz⟩ : ∃ z : Nat, sz = z := ⟨sz.toNat, by omega⟩
            subst hz
            have hpow := pow8 (n := z) (by omega)
            obtain ⟨K, hK⟩ : ∃ K : Int, K = ((2 ^ z : Nat) : Int) := ⟨_, rfl⟩
            have hK1 : (2 : Int) ^ z = K := by rw [hK]; simp
            have hK0 : 0 ≤ K := by rw [hK]; exact Int.natCast_nonneg _
            have hK8 : K ≤ 256 := by rw [hK]; exact Int.ofNat_le.2 hpow
            have e1 : wrap64 ((2 : Int) ^ z) = K := by
              rw [hK1]
              clear hK hK1
              unfold wrap64
              omega
            have e2 : wrap64 (K - 1) = K - 1 := by
              clear hK hK1 e1
              unfold wrap64
              omega
            have hWB : WB = !(ANY (K - 1)) := by
              have h9 := HWS.out h8' (by rw [HCB.out]; simp; omega)
              rw [Int.toNat_natCast, ← hK] at h9
              exact h9
            have HBAD : Hid (∀ q, q < k → K - 1 < (S q).ky → R = 4) := Hid.mk (fun q hq h => by rw [HR3.out, hWB, HANY2.out (K - 1) q hq h]; rfl)
            have HGOOD : Hid ((∀ j, j < k → ¬ (K - 1 < (S j).ky)) → R = 0) := Hid.mk (fun h => by rw [HR3.out, hWB, HANY.out (K - 1) (fun j hj => Int.not_lt.1 (h j hj))]; rfl)
            have HBB := Hid.mk (bl2 HB.out HBX1.out)
            obtain ⟨m0, m1, m2, m3, m4, m5⟩ := HAW.out
            simp only at m0 m1 m2 m3 m4 m5
            obtain ⟨wt, hwt⟩ : ∃ wt, wt = wr.alloc (.cells #[.string nm, .int .i64 st, .int .i64 (z : Int), .bool bk, .bool false, .int .i64 mu, .int .i64 di, .int .i64 ad, .int .i64 (-1)] 42) := ⟨_, rfl⟩
            have HWT := Hid.mk hwt
            clear hWB hK hK1 hpow HWS HWF HCB hwt
            go_wp2_with fail
            rw [← HWT.out]
            have HBW : Hid (Below w.heap.size w wt) := Hid.mk (by rw [HWT.out]; exact HBB.out)
            go_loopw [129] (fun i wr => ∃ q : Nat, q ≤ k ∧ i = .int .i64 q ∧ Hid (∀ j, j < q → ¬ ((K - 1) < (S j).ky)) ∧ Hid (Below wt.heap.size wt wr)) (fun i _ => k - (intOf i).toNat)
            case atStart => exact ⟨0, Nat.zero_le _, rfl, Hid.mk (fun j hj => absurd hj (Nat.not_lt_zero _)), Hid.mk (Below.refl _ _)⟩
            case round =>
              obtain ⟨q, hq, rfl, HQ, HBq⟩ := hrel
              by_cases hlq : q < k
              · have hlq' : (q : Int) < (k : Int) := by omega
                obtain ⟨x, hx⟩ := HROW.out.some hlq
                cases hx
                have hSg := (HROW.out.kept (bl2 HBW.out HBq.out)).at hlq
                rw [← HGD.out] at hSg
                have HBX1 := Hid.mk (sg_box wr (S q))
                have HSK : Hid (∃ y, y = S q) := Hid.mk ⟨_, rfl⟩
                obtain ⟨sk, hsk⟩ := HSK.out
                rw [← hsk] at hSg
                simp only [← hsk] at HBX1
                have HSKE := Hid.mk hsk
                clear hsk HSK
                obtain ⟨nm, st, sz, bk, sg, mu, di, ad, ky⟩ := sk
                unfold sgC at HBX1
                simp only at HBX1 HSKE
                obtain ⟨s0, s1, s2, s3, s4, s5, s6, s7, s8⟩ := hSg
                simp only at s0 s1 s2 s3 s4 s5 s6 s7 s8
                by_cases hky : (K - 1) < ky
                · have HKY := Hid.mk hky
                  go_wp2_with fail
                  go_ret
                  exact ⟨by rw [HBAD.out q hlq (by rw [← HSKE.out]; exact HKY.out)]; rfl, bl2 HBW.out (bl2 HBq.out HBX1.out)⟩
                · have HKY := Hid.mk hky
                  go_wp2_with fail
                  go_roundw
                  case rel => exact ⟨q + 1, by omega, by go_num, Hid.mk (fun j hj => by
                    rcases Nat.lt_or_ge j q with h | h
                    · exact HQ.out j h
                    · have e9 : j = q := by omega
                      subst e9
                      rw [← HSKE.out]; exact HKY.out), Hid.mk (bl2 HBq.out HBX1.out)⟩
                  case measure => simp [intOf]; omega
              · have e : q = k := by omega
                subst e
                go_wp2_with fail
                go_ret
                exact ⟨by rw [HGOOD.out HQ.out]; rfl, bl2 HBW.out HBq.out⟩

end Bw
end Go.Proofs.YtlnkhlifkooohaaGreatDoor
