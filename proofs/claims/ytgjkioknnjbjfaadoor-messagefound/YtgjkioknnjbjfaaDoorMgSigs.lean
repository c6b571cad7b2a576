/- What package message's checkSignals answers. -/
import Derived.Test.YtgjkioknnjbjfaaDoorMgSmall
namespace Go.Proofs.YtgjkioknnjbjfaaDoor
open Go.ChangeShapes Go.WideShapes Go.ChangeAt Go.RowKit
namespace Bw
open Sm
theorem lenB {k n : Nat} (h : k ≤ n) {m : Nat} (hm : n ≤ m) : k ≤ m := Nat.le_trans h hm
set_option maxHeartbeats 16000000 in
set_option maxRecDepth 100000 in
theorem checkSignals_any (v : MsV) (w : World) (hM : MsIn w v) (h0 : 0 ≤ v.m.size) (h8 : v.m.size ≤ 8) :
    Calls Tryd.prog 22 #[msV v] w fun e w' => e = .returned (.int .i64 (sigsE v.m)) ∧ Below w.heap.size w w' := by
  have HBX := Hid.mk (ms_box w v)
  have HAT := Hid.mk (MsAt.box w v)
  have HROW := Hid.mk hM.row
  have hlen : v.m.sigs.length = v.n := hM.row.len
  have hn : (v.n : Int) ≤ 9223372036854775807 := by have h1 := hM.row.le; have h2 := hM.row.max; unfold maxLen at h2; omega
  have hwf : ∀ i, i < v.n → wfS (v.m.at i) := fun i hi => hM.wf _ (v.m.mem (by rw [hlen]; exact hi))
  have HC := Hid.mk (fun i (hi : i < v.n) W => scheck_any (v.m.at i) v.m.size W (hwf i hi))
  obtain ⟨n8, hn8⟩ : ∃ n8 : Nat, v.m.size = n8 := ⟨v.m.size.toNat, by omega⟩
  have HBES := Hid.mk (fun i j (hi : i < v.n) (hj : j < v.n) (h1 : chkS (v.m.at i) v.m.size = 0) (h2 : chkS (v.m.at j) v.m.size = 0) W =>
    beside_any (v.m.at i) (v.m.at j) W (hwf i hi) (hwf j hj) (n := n8) (by omega) (by rw [← hn8]; exact h1) (by rw [← hn8]; exact h2))
  have HLEN := Hid.mk hlen
  have HSE : Hid (∀ i, sigE v.m i = if chkS (v.m.at i) v.m.size = 0 then firstE (fun j => besE (v.m.at j) (v.m.at i)) i else chkS (v.m.at i) v.m.size) := Hid.mk (fun i => rfl)
  have hres : sigsE v.m = firstE (sigE v.m) v.n := by unfold sigsE; rw [hlen]
  rw [hres]
  have HGD : Hid (∀ i, v.m.at i = v.m.sigs.getD i noS) := Hid.mk (fun _ => rfl)
  clear hM h0 h8 hlen hwf hn8 hres
  generalize hS : v.m.at = S at *
  generalize hG : sigE v.m = G at *
  clear hS hG
  obtain ⟨⟨mid, mlo, mnm, size, mch, sigs⟩, ma, mn, mcap⟩ := v
  unfold msC at HBX HAT
  unfold msV
  simp only at HBX HAT HROW hn HC HBES HLEN HSE HGD ⊢
  go_enter Tryd.func22, Tryd.ntmps22
  go_wp2_with fail
  go_loopw [12] (fun i wr => ∃ k : Nat, k ≤ mn ∧ i = .int .i64 k ∧ Hid (firstE G k = 0) ∧ Hid (∀ j, j < k → chkS (S j) size = 0) ∧ Hid (MsAt wr w.heap.size ⟨⟨mid, mlo, mnm, size, mch, sigs⟩, ma, mn, mcap⟩) ∧ Hid (Below w.heap.size w wr)) (fun i _ => mn - (intOf i).toNat)
  case atStart => exact ⟨0, Nat.zero_le _, rfl, Hid.mk rfl, Hid.mk (fun j hj => absurd hj (Nat.not_lt_zero _)), HAT, HBX⟩
  case round =>
    obtain ⟨k, hk, rfl, HF, HJ, HA, HB⟩ := hrel
    by_cases hlt : k < mn
    · have hlt' : (k : Int) < (mn : Int) := by omega
      obtain ⟨x, hx⟩ := HROW.out.some hlt
      subst hx
      have hAt := HA.out
      have hSg := (HROW.out.kept HB.out).at hlt
      rw [← HGD.out] at hSg
      have hBx := sg_box wr (S k)
      have hSAt := SgAt.box wr (S k)
      have hCk := HC.out k hlt
      have hSEk := HSE.out k
      generalize hsk : S k = sk at *
      have HSK := Hid.mk hsk
      clear hsk
      obtain ⟨nm, st, sz, bk, sg, mu, di, ad, ky⟩ := sk
      unfold sgC at hBx hSAt
      unfold sgV at hCk
      simp only at hBx hSAt hCk
      obtain ⟨s0, s1, s2, s3, s4, s5, s6, s7, s8⟩ := hSg
      simp only at s0 s1 s2 s3 s4 s5 s6 s7 s8
      have hA1 := hAt.kept hBx
      have HBX1 := Hid.mk hBx
      have HSAT := Hid.mk hSAt
      have HA1 := Hid.mk hA1
      obtain ⟨m0, m1, m2, m3, m4, m5⟩ := hA1
      simp only at m0 m1 m2 m3 m4 m5
      clear hAt hBx hSAt
      have HSE1 := Hid.mk hSEk
      clear hSEk
      generalize hE : chkS ⟨nm, st, sz, bk, sg, mu, di, ad, ky⟩ size = E at *
      have HE := Hid.mk hE
      clear hE
      by_cases hE0 : E = 0
      · subst hE0
        have HSE2 : Hid (G k = firstE (fun j => besE (S j) (S k)) k) := Hid.mk (by
          have h9 := HSE1.out
          simp only [if_true] at h9
          rw [h9, HSK.out])
        clear HSE1
        go_wp2_with fail
        refine (hCk _).mono ?_
        rintro e w1 ⟨rfl, hb1⟩
        have HB1 := Hid.mk (bl2 HB.out (bl2 HBX1.out hb1))
        have HK1 := Hid.mk (bl2 HBX1.out hb1)
        have HA2 := Hid.mk (HA1.out.kept hb1)
        have HS2 := Hid.mk (HSAT.out.kept hb1)
        obtain ⟨m0, m1, m2, m3, m4, m5⟩ := HA2.out
        simp only at m0 m1 m2 m3 m4 m5
        have hle := HROW.out.le
        have hkc : k ≤ mcap := by omega
        have hkc' : (k : Int) ≤ (mcap : Int) := by omega
        clear hb1 hCk s0 s1 s2 s3 s4 s5 s6 s7 s8 hle
        go_wp2_with fail
        go_loopw [29] (fun i wr => ∃ q : Nat, q ≤ k ∧ i = .int .i64 q ∧ Hid (firstE (fun j => besE (S j) (S k)) q = 0) ∧ Hid (Below w1.heap.size w1 wr)) (fun i _ => k - (intOf i).toNat)
        case atStart => exact ⟨0, Nat.zero_le _, rfl, Hid.mk rfl, Hid.mk (Below.refl _ _)⟩
        case round =>
          obtain ⟨q, hq, rfl, HQ, HBq⟩ := hrel
          by_cases hlq : q < k
          · have hlq' : (q : Int) < (k : Int) := by omega
            have hqn : q < mn := by omega
            have hSg := (HROW.out.kept (bl2 HB1.out HBq.out)).at hqn
            rw [← HGD.out] at hSg
            have hBx := sg_box wr (S q)
            have hb := HBES.out q k hqn hlt (HJ.out q hlq) (by rw [HSK.out]; exact HE.out)
            rw [HSK.out] at hb
            generalize hsk : S q = sk at *
            have HSQ := Hid.mk hsk
            clear hsk
            obtain ⟨nm', st', sz', bk', sg', mu', di', ad', ky'⟩ := sk
            unfold sgC at hBx
            unfold sgV at hb
            simp only at hBx hb
            obtain ⟨t0, t1, t2, t3, t4, t5, t6, t7, t8⟩ := hSg
            simp only at t0 t1 t2 t3 t4 t5 t6 t7 t8
            have hS3 := HS2.out.kept (bl2 HBq.out hBx)
            obtain ⟨s0, s1, s2, s3, s4, s5, s6, s7, s8⟩ := hS3
            simp only at s0 s1 s2 s3 s4 s5 s6 s7 s8
            have HBX2 := Hid.mk hBx
            clear hBx
            generalize hV : besE ⟨nm', st', sz', bk', sg', mu', di', ad', ky'⟩ ⟨nm, st, sz, bk, sg, mu, di, ad, ky⟩ = V at *
            have HV := Hid.mk hV
            clear hV
            by_cases hV0 : V = 0
            · subst hV0
              go_wp2_with fail
              refine (hb _).mono ?_
              rintro e w2 ⟨rfl, hb2⟩
              have HB2 := Hid.mk (bl2 HBq.out (bl2 HBX2.out hb2))
              clear hb2 hb
              go_wp2_with fail
              go_roundw
              case rel => exact ⟨q + 1, by omega, by go_num, Hid.mk (firstE_step HQ.out (by rw [HSK.out, HSQ.out]; exact HV.out)), HB2⟩
              case measure => simp [intOf]; omega
            · have hne : (V != 0) = true := by simpa using hV0
              have HV0 := Hid.mk hV0
              clear hV0
              go_wp2_with fail
              refine (hb _).mono ?_
              rintro e w2 ⟨rfl, hb2⟩
              have HB2 := Hid.mk (bl2 HBq.out (bl2 HBX2.out hb2))
              clear hb2 hb
              go_wp2_with fail
              go_ret
              refine ⟨?_, bl2 HB1.out HB2.out⟩
              have hh : firstE (fun j => besE (S j) (S k)) k = V := by
                rw [firstE_hit HQ.out (by rw [HSK.out, HSQ.out, HV.out]; exact HV0.out) hlq, HSK.out, HSQ.out]
                exact HV.out
              have hGk : G k = V := by rw [HSE2.out]; exact hh
              rw [firstE_hit HF.out (by rw [hGk]; exact HV0.out) hlt, hGk]; rfl
          · have e : q = k := by omega
            subst e
            go_wp2_with fail
            go_roundw
            case rel =>
              refine ⟨q + 1, by omega, by go_num, Hid.mk (firstE_step HF.out ?_), Hid.mk (fun j hj => ?_), Hid.mk (HA2.out.kept HBq.out), Hid.mk (bl2 HB1.out HBq.out)⟩
              · rw [HSE2.out]; exact HQ.out
              · rcases Nat.lt_or_ge j q with h | h
                · exact HJ.out j h
                · have : j = q := by omega
                  subst this
                  rw [HSK.out]; exact HE.out
            case measure => simp [intOf]; omega
      · have hne : (E != 0) = true := by simpa using hE0
        have HE0 := Hid.mk hE0
        clear hE0
        go_wp2_with fail
        refine (hCk _).mono ?_
        rintro e w1 ⟨rfl, hb1⟩
        have HB1 := Hid.mk (bl2 HB.out (bl2 HBX1.out hb1))
        clear hb1
        go_wp2_with fail
        go_ret
        refine ⟨?_, HB1.out⟩
        have hGk : G k = E := by rw [HSE1.out, if_neg HE0.out]
        rw [firstE_hit HF.out (by rw [hGk]; exact HE0.out) hlt, hGk]; rfl
    · have e : k = mn := by omega
      subst e
      go_wp2_with fail
      go_ret
      exact ⟨by rw [HF.out]; rfl, HB.out⟩
end Bw
end Go.Proofs.YtgjkioknnjbjfaaDoor
