/- What package message's isOf, neverBoth, checkBeside, checkSignals, choosesWell and Check answer; slices.ContainsFunc of signals. -/
import Derived.Test.YtlnkhlifkooohaaGreatDoorMsgRow
import Derived.Test.YtlnkhlifkooohaaGreatDoorFrCheck
import Derived.Test.YtlnkhlifkooohaaGreatDoorSgFacts
import Derived.Test.YtlnkhlifkooohaaGreatDoorBase0
import Derived.Shelf.Abstract
namespace Go.Proofs.YtlnkhlifkooohaaGreatDoor
open Go.ChangeShapes Go.WideShapes Go.ChangeAt Go.RowKit
namespace Bw
open Sm
theorem str_list (a : ByteArray) : a.toList = a.data.toList := ByteArray.toList_eq a
theorem str_yes {a b : ByteArray} (h : a = b) : (a.toList == b.toList) = true := by rw [h]; simp
theorem str_no {a b : ByteArray} (h : ¬ a = b) : (a.toList == b.toList) = false := by
  rw [str_list, str_list]
  apply beq_false_of_ne
  intro e
  apply h
  have h2 : a.data = b.data := Array.toList_inj.1 e
  cases a; cases b; simp only at h2; rw [h2]
theorem beside_B (w : World) (s t : Sig) : Below w.heap.size w ((w.alloc (sgC s)).alloc (sgC t)) := oW0_B w s t
set_option maxHeartbeats 4000000 in
theorem never_any (a b : Sig) (w : World) :
    Calls Tryz.prog 157 #[sgV a, sgV b] w fun e w' => e = .returned (.bool (nevB a b)) ∧ Below w.heap.size w w' := by
  have HB := Hid.mk (beside_B w a b)
  have hN : nevB a b = (decide (0 ≤ a.ky) && (decide (0 ≤ b.ky) && !(a.ky == b.ky))) := rfl
  rw [hN]
  clear hN
  obtain ⟨nm, st, sz, bk, sg, mu, di, ad, ky⟩ := a
  obtain ⟨nm', st', sz', bk', sg', mu', di', ad', ky'⟩ := b
  unfold sgC at HB
  unfold sgV
  simp only at HB ⊢
  by_cases h0 : 0 ≤ ky
  · by_cases h1 : 0 ≤ ky'
    · by_cases h2 : ky = ky'
      · subst h2
        rw [show (decide (0 ≤ ky) && (decide (0 ≤ ky) && !(ky == ky))) = false by simp]
        go_enter Tryz.func157, Tryz.ntmps157
        go_wp2_with fail
        go_ret
        exact ⟨rfl, HB.out⟩
      · have e2 : (ky == ky') = false := by simpa using h2
        rw [show (decide (0 ≤ ky) && (decide (0 ≤ ky') && !(ky == ky'))) = true by rw [e2]; simp [h0, h1]]
        go_enter Tryz.func157, Tryz.ntmps157
        go_wp2_with fail
        go_ret
        exact ⟨ret_b (by first | rfl | (rw [e2]; rfl) | (simp only [decide_eq_true_eq]; exact h2) | simp [h2]), HB.out⟩
    · rw [show (decide (0 ≤ ky) && (decide (0 ≤ ky') && !(ky == ky'))) = false by simp [h1]]
      go_enter Tryz.func157, Tryz.ntmps157
      go_wp2_with fail
      go_ret
      exact ⟨rfl, HB.out⟩
  · rw [show (decide (0 ≤ ky) && (decide (0 ≤ ky') && !(ky == ky'))) = false by simp [h0]]
    go_enter Tryz.func157, Tryz.ntmps157
    go_wp2_with fail
    go_ret
    exact ⟨rfl, HB.out⟩
theorem over_is (a b : Sig) (w : World) (h : wfS a) (h' : wfS b) {n : Nat} (hn : n ≤ 64) (ha : chkS a n = 0) (hb : chkS b n = 0) :
    Calls Tryz.prog 156 #[sgV a, sgV b] w fun e w' => e = .returned (.bool (ovS a b)) ∧ Below w.heap.size w w' := by
  obtain ⟨st, sz, hR⟩ := right_of ha
  obtain ⟨st', sz', hR'⟩ := right_of hb
  have := over_ok a b st sz st' sz' w h h' (chk_more ha) (chk_more hb) (hR.more hn (Nat.le_refl _)) (hR'.more hn (Nat.le_refl _))
  unfold ovS
  rw [hR.hst, hR.hsz, hR'.hst, hR'.hsz, Int.toNat_natCast, Int.toNat_natCast, Int.toNat_natCast, Int.toNat_natCast]
  exact this
set_option maxHeartbeats 4000000 in
theorem beside_any (a b : Sig) (w : World) (h : wfS a) (h' : wfS b) {n : Nat} (hn : n ≤ 64) (ha : chkS a n = 0) (hb : chkS b n = 0) :
    Calls Tryz.prog 122 #[sgV a, sgV b] w fun e w' => e = .returned (.int .i64 (besE a b)) ∧ Below w.heap.size w w' := by
  have HB := Hid.mk (beside_B w a b)
  have HGa := Hid.mk (oW0_s w a b)
  have HGb := Hid.mk (oW0_t w a b)
  have HO := Hid.mk (fun W => over_is a b W h h' hn ha hb)
  have HN := Hid.mk (fun W => never_any a b W)
  have hE : besE a b = if a.nm = b.nm then 9 else if (ovS a b && !nevB a b) = true then 10 else 0 := rfl
  rw [hE]
  clear hE h h' hn ha hb
  generalize ovS a b = O at *
  generalize nevB a b = V at *
  obtain ⟨nm, st, sz, bk, sg, mu, di, ad, ky⟩ := a
  obtain ⟨nm', st', sz', bk', sg', mu', di', ad', ky'⟩ := b
  unfold sgC at HB
  unfold oW0 sgC at HGa HGb
  unfold sgV at HO HN ⊢
  simp only at HB HGa HGb HO HN ⊢
  by_cases h0 : nm = nm'
  · have e0 := str_yes h0
    rw [if_pos h0]
    clear h0
    go_enter Tryz.func122, Tryz.ntmps122
    go_wp2_with fail
    go_ret
    exact ⟨rfl, HB.out⟩
  · have e0 := str_no h0
    rw [if_neg h0]
    clear h0
    go_enter Tryz.func122, Tryz.ntmps122
    go_wp2_with fail
    refine (HO.out _).mono ?_
    rintro e w1 ⟨rfl, hb1⟩
    have HB1 := Hid.mk (bl2 HB.out hb1)
    obtain ⟨a0, a1, a2, a3, a4, a5, a6, a7, a8⟩ := HGa.out.kept hb1
    obtain ⟨b0, b1, b2, b3, b4, b5, b6, b7, b8⟩ := HGb.out.kept hb1
    simp only at a0 a1 a2 a3 a4 a5 a6 a7 a8 b0 b1 b2 b3 b4 b5 b6 b7 b8
    clear hb1
    cases O with
    | false =>
      go_wp2_with fail
      go_ret
      exact ⟨rfl, HB1.out⟩
    | true =>
      go_wp2_with fail
      refine (HN.out _).mono ?_
      rintro e w2 ⟨rfl, hb2⟩
      have HB2 := Hid.mk (bl2 HB1.out hb2)
      clear hb2
      cases V with
      | true =>
        go_wp2_with fail
        go_ret
        exact ⟨rfl, HB2.out⟩
      | false =>
        go_wp2_with fail
        go_ret
        exact ⟨rfl, HB2.out⟩
def ofB (id : Int) (lo : Bool) (v : MsV) : Bool := (id == v.m.id) && (lo == v.m.lo)
theorem ofB_B (w : World) (id : Int) (lo fa re : Bool) (sz : Int) (a : Option Addr) (len cap : Nat) (v : MsV) : Below w.heap.size w ((w.alloc (frameC id lo fa re sz a len cap)).alloc (msC v)) := ((Below.refl _ _).alloc (Nat.le_refl _) _).alloc (by simp) _
set_option maxHeartbeats 4000000 in
theorem isOf_any (id : Int) (lo fa re : Bool) (sz : Int) (a : Option Addr) (len cap : Nat) (v : MsV) (w : World) :
    Calls Tryz.prog 85 #[frameV id lo fa re sz a len cap, msV v] w fun e w' => e = .returned (.bool (ofB id lo v)) ∧ Below w.heap.size w w' := by
  have HB := Hid.mk (ofB_B w id lo fa re sz a len cap v)
  have hN : ofB id lo v = ((id == v.m.id) && (lo == v.m.lo)) := rfl
  rw [hN]
  clear hN
  obtain ⟨⟨mid, mlo, mnm, msize, mch, msg⟩, ma, mn, mcap⟩ := v
  unfold frameC msC at HB
  unfold frameV msV
  simp only at HB ⊢
  by_cases h0 : id = mid
  · have e0 : (id == mid) = true := by simpa using h0
    rw [e0]
    clear h0
    go_enter Tryz.func85, Tryz.ntmps85
    go_wp2_with fail
    go_ret
    exact ⟨ret_b (by simp), HB.out⟩
  · have e0 : (id == mid) = false := by simpa using h0
    rw [e0]
    clear h0
    go_enter Tryz.func85, Tryz.ntmps85
    go_wp2_with fail
    go_ret
    exact ⟨ret_b (by simp), HB.out⟩
end Bw
end Go.Proofs.YtlnkhlifkooohaaGreatDoor
namespace Go.Proofs.YtlnkhlifkooohaaGreatDoor
open Go.ChangeShapes Go.WideShapes Go.ChangeAt Go.RowKit
namespace Bw
open Sm
theorem lenB {k n : Nat} (h : k ≤ n) {m : Nat} (hm : n ≤ m) : k ≤ m := Nat.le_trans h hm
set_option maxHeartbeats 16000000 in
set_option maxRecDepth 100000 in
theorem checkSignals_any (v : MsV) (w : World) (hM : MsIn w v) (h0 : 0 ≤ v.m.size) (h8 : v.m.size ≤ 8) :
    Calls Tryz.prog 74 #[msV v] w fun e w' => e = .returned (.int .i64 (sigsE v.m)) ∧ Below w.heap.size w w' := by
  have HBX := Hid.mk (ms_box w v)
  have HAT := Hid.mk (MsAt.box w v)
  have HROW := Hid.mk hM.row
  have hlen : v.m.sigs.length = v.n := hM.row.len
  have hn : (v.n : Int) ≤ 9223372036854775807 := by have h1 := hM.row.le; have h2 := hM.row.max; unfold maxLen at h2; omega
  have hwf : ∀ i, i < v.n → wfS (v.m.at i) := fun i hi => hM.wf _ (v.m.mem (by rw [hlen]; exact hi))
  have HC := Hid.mk (fun i (hi : i < v.n) W => scheck_any (v.m.at i) v.m.size W (hwf i hi))
  obtain ⟨n8, hn8⟩ : ∃ n8 : Nat, v.m.size = n8 := ⟨v.m.size.toNat, by omega⟩
  have HBES := Hid.mk (fun i j (hi : i < v.n) (hj : j < v.n) (h1 : chkS (v.m.at i) v.m.size = 0) (h2 : chkS (v.m.at j) v.m.size = 0) W =>
    beside_any (v.m.at i) (v.m.at j) W (hwf i hi) (hwf j hj) (n := n8) (by omega) (by rw [← hn8]; exact h1) (by rw [← hn8]; exact h2))
  have HLEN := Hid.mk hlen
  have HSE : Hid (∀ i, sigE v.m i = if chkS (v.m.at i) v.m.size = 0 then firstE (fun j => besE (v.m.at j) (v.m.at i)) i else chkS (v.m.at i) v.m.size) := Hid.mk (fun i => rfl)
  have hres : sigsE v.m = firstE (sigE v.m) v.n := by unfold sigsE; rw [hlen]
  rw [hres]
  have HGD : Hid (∀ i, v.m.at i = v.m.sigs.getD i noS) := Hid.mk (fun _ => rfl)
  clear hM h0 h8 hlen hwf hn8 hres
  generalize hS : v.m.at = S at *
  generalize hG : sigE v.m = G at *
  clear hS hG
  obtain ⟨⟨mid, mlo, mnm, size, mch, sigs⟩, ma, mn, mcap⟩ := v
  unfold msC at HBX HAT
  unfold msV
  simp only at HBX HAT HROW hn HC HBES HLEN HSE HGD ⊢
  go_enter Tryz.func74, Tryz.ntmps74
  go_wp2_with fail
  go_loopw [12] (fun i wr => ∃ k : Nat, k ≤ mn ∧ i = .int .i64 k ∧ Hid (firstE G k = 0) ∧ Hid (∀ j, j < k → chkS (S j) size = 0) ∧ Hid (MsAt wr w.heap.size ⟨⟨mid, mlo, mnm, size, mch, sigs⟩, ma, mn, mcap⟩) ∧ Hid (Below w.heap.size w wr)) (fun i _ => mn - (intOf i).toNat)
  case atStart => exact ⟨0, Nat.zero_le _, rfl, Hid.mk rfl, Hid.mk (fun j hj => absurd hj (Nat.not_lt_zero _)), HAT, HBX⟩
  case round =>
    obtain ⟨k, hk, rfl, HF, HJ, HA, HB⟩ := hrel
    by_cases hlt : k < mn
    · have hlt' : (k : Int) < (mn : Int) := by omega
      obtain ⟨x, hx⟩ := HROW.out.some hlt
      subst hx
      have hAt := HA.out
      have hSg := (HROW.out.kept HB.out).at hlt
      rw [← HGD.out] at hSg
      have hBx := sg_box wr (S k)
      have hSAt := SgAt.box wr (S k)
      have hCk := HC.out k hlt
      have hSEk := HSE.out k
      generalize hsk : S k = sk at *
      have HSK := Hid.mk hsk
      clear hsk
      obtain ⟨nm, st, sz, bk, sg, mu, di, ad, ky⟩ := sk
      unfold sgC at hBx hSAt
      unfold sgV at hCk
      simp only at hBx hSAt hCk
      obtain ⟨s0, s1, s2, s3, s4, s5, s6, s7, s8⟩ := hSg
      simp only at s0 s1 s2 s3 s4 s5 s6 s7 s8
      have hA1 := hAt.kept hBx
      have HBX1 := Hid.mk hBx
      have HSAT := Hid.mk hSAt
      have HA1 := Hid.mk hA1
      obtain ⟨m0, m1, m2, m3, m4, m5⟩ := hA1
      simp only at m0 m1 m2 m3 m4 m5
      clear hAt hBx hSAt
      have HSE1 := Hid.mk hSEk
      clear hSEk
      generalize hE : chkS ⟨nm, st, sz, bk, sg, mu, di, ad, ky⟩ size = E at *
      have HE := Hid.mk hE
      clear hE
      by_cases hE0 : E = 0
      · subst hE0
        have HSE2 : Hid (G k = firstE (fun j => besE (S j) (S k)) k) := Hid.mk (by
          have h9 := HSE1.out
          simp only [if_true] at h9
          rw [h9, HSK.out])
        clear HSE1
        go_wp2_with fail
        refine (hCk _).mono ?_
        rintro e w1 ⟨rfl, hb1⟩
        have HB1 := Hid.mk (bl2 HB.out (bl2 HBX1.out hb1))
        have HK1 := Hid.mk (bl2 HBX1.out hb1)
        have HA2 := Hid.mk (HA1.out.kept hb1)
        have HS2 := Hid.mk (HSAT.out.kept hb1)
        obtain ⟨m0, m1, m2, m3, m4, m5⟩ := HA2.out
        simp only at m0 m1 m2 m3 m4 m5
        have hle := HROW.out.le
        have hkc : k ≤ mcap := by omega
        have hkc' : (k : Int) ≤ (mcap : Int) := by omega
        clear hb1 hCk s0 s1 s2 s3 s4 s5 s6 s7 s8 hle
        go_wp2_with fail
        go_loopw [29] (fun i wr => ∃ q : Nat, q ≤ k ∧ i = .int .i64 q ∧ Hid (firstE (fun j => besE (S j) (S k)) q = 0) ∧ Hid (Below w1.heap.size w1 wr)) (fun i _ => k - (intOf i).toNat)
        case atStart => exact ⟨0, Nat.zero_le _, rfl, Hid.mk rfl, Hid.mk (Below.refl _ _)⟩
        case round =>
          obtain ⟨q, hq, rfl, HQ, HBq⟩ := hrel
          by_cases hlq : q < k
          · have hlq' : (q : Int) < (k : Int) := by omega
            have hqn : q < mn := by omega
            have hSg := (HROW.out.kept (bl2 HB1.out HBq.out)).at hqn
            rw [← HGD.out] at hSg
            have hBx := sg_box wr (S q)
            have hb := HBES.out q k hqn hlt (HJ.out q hlq) (by rw [HSK.out]; exact HE.out)
            rw [HSK.out] at hb
            generalize hsk : S q = sk at *
            have HSQ := Hid.mk hsk
            clear hsk
            obtain ⟨nm', st', sz', bk', sg', mu', di', ad', ky'⟩ := sk
            unfold sgC at hBx
            unfold sgV at hb
            simp only at hBx hb
            obtain ⟨t0, t1, t2, t3, t4, t5, t6, t7, t8⟩ := hSg
            simp only at t0 t1 t2 t3 t4 t5 t6 t7 t8
            have hS3 := HS2.out.kept (bl2 HBq.out hBx)
            obtain ⟨s0, s1, s2, s3, s4, s5, s6, s7, s8⟩ := hS3
            simp only at s0 s1 s2 s3 s4 s5 s6 s7 s8
            have HBX2 := Hid.mk hBx
            clear hBx
            generalize hV : besE ⟨nm', st', sz', bk', sg', mu', di', ad', ky'⟩ ⟨nm, st, sz, bk, sg, mu, di, ad, ky⟩ = V at *
            have HV := Hid.mk hV
            clear hV
            by_cases hV0 : V = 0
            · subst hV0
              go_wp2_with fail
              refine (hb _).mono ?_
              rintro e w2 ⟨rfl, hb2⟩
              have HB2 := Hid.mk (bl2 HBq.out (bl2 HBX2.out hb2))
              clear hb2 hb
              go_wp2_with fail
              go_roundw
              case rel => exact ⟨q + 1, by omega, by go_num, Hid.mk (firstE_step HQ.out (by rw [HSK.out, HSQ.out]; exact HV.out)), HB2⟩
              case measure => simp [intOf]; omega
            · have hne : (V != 0) = true := by simpa using hV0
              have HV0 := Hid.mk hV0
              clear hV0
              go_wp2_with fail
              refine (hb _).mono ?_
              rintro e w2 ⟨rfl, hb2⟩
              have HB2 := Hid.mk (bl2 HBq.out (bl2 HBX2.out hb2))
              clear hb2 hb
              go_wp2_with fail
              go_ret
              refine ⟨?_, bl2 HB1.out HB2.out⟩
              have hh : firstE (fun j => besE (S j) (S k)) k = V := by
                rw [firstE_hit HQ.out (by rw [HSK.out, HSQ.out, HV.out]; exact HV0.out) hlq, HSK.out, HSQ.out]
                exact HV.out
              have hGk : G k = V := by rw [HSE2.out]; exact hh
              rw [firstE_hit HF.out (by rw [hGk]; exact HV0.out) hlt, hGk]; rfl
          · have e : q = k := by omega
            subst e
            go_wp2_with fail
            go_roundw
            case rel =>
              refine ⟨q + 1, by omega, by go_num, Hid.mk (firstE_step HF.out ?_), Hid.mk (fun j hj => ?_), Hid.mk (HA2.out.kept HBq.out), Hid.mk (bl2 HB1.out HBq.out)⟩
              · rw [HSE2.out]; exact HQ.out
              · rcases Nat.lt_or_ge j q with h | h
                · exact HJ.out j h
                · have : j = q := by omega
                  subst this
                  rw [HSK.out]; exact HE.out
            case measure => simp [intOf]; omega
      · have hne : (E != 0) = true := by simpa using hE0
        have HE0 := Hid.mk hE0
        clear hE0
        go_wp2_with fail
        refine (hCk _).mono ?_
        rintro e w1 ⟨rfl, hb1⟩
        have HB1 := Hid.mk (bl2 HB.out (bl2 HBX1.out hb1))
        clear hb1
        go_wp2_with fail
        go_ret
        refine ⟨?_, HB1.out⟩
        have hGk : G k = E := by rw [HSE1.out, if_neg HE0.out]
        rw [firstE_hit HF.out (by rw [hGk]; exact HE0.out) hlt, hGk]; rfl
    · have e : k = mn := by omega
      subst e
      go_wp2_with fail
      go_ret
      exact ⟨by rw [HF.out]; rfl, HB.out⟩
end Bw
end Go.Proofs.YtlnkhlifkooohaaGreatDoor
namespace Go.Proofs.YtlnkhlifkooohaaGreatDoor
open Go.ChangeShapes Go.WideShapes Go.ChangeAt Go.RowKit
namespace Bw
def idxK (f : Nat → Bool) : Nat → Int
  | 0 => -1
  | k + 1 => if 0 ≤ idxK f k then idxK f k else if f k = true then (k : Int) else -1
theorem idxK_none {f : Nat → Bool} : ∀ {n : Nat}, (∀ j, j < n → f j = false) → idxK f n = -1
  | 0, _ => rfl
  | n + 1, h => by
    have h1 := idxK_none (f := f) (n := n) (fun j hj => h j (by omega))
    have h2 := h n (by omega)
    simp [idxK, h1, h2]
theorem idxK_hit {f : Nat → Bool} {k : Nat} (h : ∀ j, j < k → f j = false) (hk : f k = true) : ∀ {n : Nat}, k < n → idxK f n = k
  | 0, hn => absurd hn (Nat.not_lt_zero _)
  | n + 1, hn => by
    by_cases e : n = k
    · subst e
      have h1 := idxK_none h
      simp [idxK, h1, hk]
    · have h1 := idxK_hit h hk (n := n) (by omega)
      simp [idxK, h1]
theorem idx_first (f : Nat → Bool) (n : Nat) : (∀ j, j < n → f j = false) ∨ ∃ k, k < n ∧ f k = true ∧ ∀ j, j < k → f j = false := by
  induction n with
  | zero => exact .inl (fun j hj => absurd hj (Nat.not_lt_zero _))
  | succ n ih =>
    rcases ih with h | ⟨k, hk, h1, h2⟩
    · cases hn : f n with
      | true => exact .inr ⟨n, by omega, hn, h⟩
      | false =>
        refine .inl fun j hj => ?_
        by_cases e : j = n
        · subst e; exact hn
        · exact h j (by omega)
    · exact .inr ⟨k, by omega, h1, h2⟩
theorem idx_any {α : Type} (p : α → Bool) (z : α) {l : List α} {n : Nat} (hl : l.length = n) : decide (0 ≤ idxK (fun i => p (l.getD i z)) n) = l.any p := by
  rcases idx_first (fun i => p (l.getD i z)) n with h | ⟨k, hk, h1, h2⟩
  · rw [idxK_none h]
    symm
    show l.any p = false
    rw [List.any_eq_false]
    intro x hx
    obtain ⟨i, hi, rfl⟩ := List.mem_iff_getElem.1 hx
    have := h i (by omega)
    simp only [List.getD, List.getElem?_eq_getElem hi, Option.getD_some] at this
    simp [this]
  · rw [idxK_hit h2 h1 hk]
    have : l.any p = true := by
      rw [List.any_eq_true]
      have hk' : k < l.length := by omega
      refine ⟨l[k], List.getElem_mem hk', ?_⟩
      simpa only [List.getD, List.getElem?_eq_getElem hk', Option.getD_some] using h1
    rw [this]
    simp
end Bw
end Go.Proofs.YtlnkhlifkooohaaGreatDoor
namespace Go.Proofs.YtlnkhlifkooohaaGreatDoor
open Go.ChangeShapes Go.WideShapes Go.ChangeAt Go.RowKit
namespace Bw
open Sm
set_option maxHeartbeats 2000000 in
set_option maxRecDepth 100000 in
theorem indexFuncSg (g : Nat) (lb : Array Value) (eg : ∀ args w, (callFunc g args).run Tryz.prog w = .ok (.enter g args) w) (p : Sig → Bool) (a : Option Addr) (n c : Nat) (l : List Sig) (w : World) (hF : IsSigs w a n c l)
    (hp : ∀ W x, Below w.heap.size w W → x ∈ l → Calls Tryz.prog g (#[sgV x] ++ lb) W fun e w' => e = .returned (.bool (p x)) ∧ Below W.heap.size W w') :
    Calls Tryz.prog 115 #[.slice a n c, .func (.func g) #[] lb] w fun e w' => e = .returned (.int .i64 (idxK (fun i => p (l.getD i noS)) n)) ∧ Below w.heap.size w w' := by
  have HF := Hid.mk hF
  have HP := Hid.mk hp
  have hn63 : n ≤ 9223372036854775807 := by have h1 := hF.le; have h2 := hF.max; unfold maxLen at h2; omega
  clear hF hp
  go_enter Tryz.func115, Tryz.ntmps115
  go_wp2_with fail
  go_loopw [8] (fun i wr => ∃ k : Nat, k ≤ n ∧ i = .int .i64 k ∧ Hid (∀ j, j < k → p (l.getD j noS) = false) ∧ Hid (Below w.heap.size w wr)) (fun i _ => n - (intOf i).toNat)
  case atStart => exact ⟨0, Nat.zero_le _, rfl, Hid.mk (fun j hj => absurd hj (Nat.not_lt_zero _)), Hid.mk (Below.refl _ _)⟩
  case round =>
    obtain ⟨k, hk, rfl, HA, HB⟩ := hrel
    by_cases hlt : k < n
    · have hlt' : (k : Int) < (n : Int) := by omega
      obtain ⟨x, hx⟩ := HF.out.some hlt
      subst hx
      have hAt := (HF.out.kept HB.out).at hlt
      have hcall := HP.out wr _ HB.out (HF.out.mem hlt)
      have HY : Hid (∃ y, y = l.getD k noS) := Hid.mk ⟨_, rfl⟩
      obtain ⟨y, hy⟩ := HY.out
      rw [← hy] at hAt hcall
      have HYY := Hid.mk hy
      clear hy HY
      cases hq : p y with
      | true =>
        rw [hq] at hcall
        have HQ := Hid.mk hq
        clear hq
        obtain ⟨nm, st, sz, bk, sg, mu, di, ad, ky⟩ := y
        unfold sgV at hcall
        obtain ⟨c0, c1, c2, c3, c4, c5, c6, c7, c8⟩ := hAt
        simp only at hcall c0 c1 c2 c3 c4 c5 c6 c7 c8
        have HC := Hid.mk hcall
        clear hcall
        go_wp2_with (go_at_fn g; refine HC.out.mono ?_; rintro e w1 ⟨rfl, hb1⟩)
        have HB1 := Hid.mk (bl2 HB.out hb1)
        clear hb1
        go_ret
        exact ⟨by rw [idxK_hit HA.out (by show p (l.getD k noS) = true; rw [← HYY.out]; exact HQ.out) hlt]; rfl, HB1.out⟩
      | false =>
        rw [hq] at hcall
        have HQ := Hid.mk hq
        clear hq
        obtain ⟨nm, st, sz, bk, sg, mu, di, ad, ky⟩ := y
        unfold sgV at hcall
        obtain ⟨c0, c1, c2, c3, c4, c5, c6, c7, c8⟩ := hAt
        simp only at hcall c0 c1 c2 c3 c4 c5 c6 c7 c8
        have HC := Hid.mk hcall
        clear hcall
        go_wp2_with (go_at_fn g; refine HC.out.mono ?_; rintro e w1 ⟨rfl, hb1⟩)
        have HB1 := Hid.mk (bl2 HB.out hb1)
        clear hb1
        go_roundw
        case rel =>
          refine ⟨k + 1, by omega, by go_num, Hid.mk fun j hj => ?_, HB1⟩
          by_cases e : j = k
          · subst e; rw [← HYY.out]; exact HQ.out
          · exact HA.out j (by omega)
        case measure => simp [intOf]; omega
    · have e : k = n := by omega
      subst e
      go_wp2_with fail
      go_ret
      exact ⟨by rw [idxK_none HA.out]; rfl, HB.out⟩
set_option maxHeartbeats 2000000 in
theorem containsFuncSg (g : Nat) (lb : Array Value) (eg : ∀ args w, (callFunc g args).run Tryz.prog w = .ok (.enter g args) w) (p : Sig → Bool) (a : Option Addr) (n c : Nat) (l : List Sig) (w : World) (hF : IsSigs w a n c l)
    (hp : ∀ W x, Below w.heap.size w W → x ∈ l → Calls Tryz.prog g (#[sgV x] ++ lb) W fun e w' => e = .returned (.bool (p x)) ∧ Below W.heap.size W w') :
    Calls Tryz.prog 123 #[.slice a n c, .func (.func g) #[] lb] w fun e w' => e = .returned (.bool (l.any p)) ∧ Below w.heap.size w w' := by
  have HI := Hid.mk (indexFuncSg g lb eg p a n c l w hF hp)
  have HR := Hid.mk (idx_any p noS (l := l) (n := n) hF.len)
  clear hF hp eg
  generalize idxK (fun i => p (l.getD i noS)) n = r at *
  go_enter Tryz.func123, Tryz.ntmps123
  go_wp2_with fail
  refine HI.out.mono ?_
  rintro e w1 ⟨rfl, hb⟩
  have HB := Hid.mk hb
  clear hb
  go_wp2_with fail
  go_ret
  exact ⟨by rw [← HR.out]; rfl, HB.out⟩
end Bw
end Go.Proofs.YtlnkhlifkooohaaGreatDoor
namespace Go.Proofs.YtlnkhlifkooohaaGreatDoor
open Go.ChangeShapes Go.WideShapes Go.ChangeAt Go.RowKit
namespace Bw
open Sm
theorem awB1 (w : World) (o : Obj) : Below w.heap.size w (w.alloc o) := (Below.refl _ _).alloc (Nat.le_refl _) _
theorem cw_new (w : World) (n : Int) : (w.alloc (.cells #[.int .i64 n] 3)).cell? ⟨w.heap.size, 0, none⟩ = some (.int .i64 n) :=
  cell_of_row _ _ 0 _ _ _ (heap_alloc_new w _)
set_option maxHeartbeats 2000000 in
theorem above_any (s : Sig) (g : Nat) (most : Int) (w : World) (hg : w.cell? ⟨g, 0, none⟩ = some (.int .i64 most)) :
    Calls Tryz.prog 124 #[sgV s, .pointer (some ⟨g, 0, none⟩)] w fun e w' => e = .returned (.bool (decide (most < s.ky))) ∧ Below w.heap.size w w' := by
  have HB := Hid.mk (sg_box w s)
  have hg1 := cell_kept HB.out hg
  obtain ⟨nm, st, sz, bk, sg, mu, di, ad, ky⟩ := s
  unfold sgC at HB hg1
  unfold sgV
  simp only at HB hg1 ⊢
  go_enter Tryz.func124, Tryz.ntmps124
  go_wp2_with fail
  go_ret
  exact ⟨rfl, HB.out⟩
theorem pow8 {n : Nat} (h : n ≤ 8) : (2 ^ n : Nat) ≤ 256 := Nat.le_trans (Nat.pow_le_pow_right (by omega) h) (by decide)
set_option maxHeartbeats 8000000 in
set_option maxRecDepth 100000 in
theorem well_bad (v : MsV) (w : World) (hM : MsIn w v) (h0 : 0 ≤ v.m.ch) (h1 : v.m.ch < (v.m.sigs.length : Int)) (hC : chooB (v.m.at v.m.ch.toNat) = false) :
    Calls Tryz.prog 75 #[msV v] w fun e w' => e = .returned (.bool false) ∧ Below w.heap.size w w' := by
  have HBX := Hid.mk (ms_box w v)
  have hlen : v.m.sigs.length = v.n := hM.row.len
  obtain ⟨c, hc⟩ : ∃ c : Nat, v.m.ch = c := ⟨v.m.ch.toNat, by omega⟩
  have hcn : c < v.n := by omega
  rw [hc, Int.toNat_natCast] at hC
  obtain ⟨x, hx⟩ := hM.row.some hcn
  have hr := hM.row
  rw [hx] at hr
  have hA1 := awB1 (w.alloc (msC v)) (.cells #[.int .i64 (-1)] 3)
  have HA1 := Hid.mk (bl2 HBX.out hA1)
  have hS := (hr.kept HA1.out).at hcn
  have HSB := Hid.mk (fun W => sg_box W (v.m.at c))
  have e9 : v.m.sigs.getD c noS = v.m.at c := rfl
  rw [e9] at hS
  clear e9 hr
  generalize v.m.at c = s at *
  obtain ⟨nm, st, sz, bk, sg, mu, di, ad, ky⟩ := s
  obtain ⟨⟨mid, mlo, mnm, size, mch, sigs⟩, ma, mn, mcap⟩ := v
  simp only at hc hx hcn hlen
  subst hc
  subst hx
  obtain ⟨s0, s1, s2, s3, s4, s5, s6, s7, s8⟩ := hS
  unfold msC at HBX HA1 s0 s1 s2 s3 s4 s5 s6 s7 s8
  unfold sgC at HSB
  unfold msV
  simp only at HBX HA1 HSB s0 s1 s2 s3 s4 s5 s6 s7 s8 ⊢
  have hcn' : (c : Int) < (mn : Int) := by omega
  have hcn0 : (0 : Int) ≤ (c : Int) := by omega
  unfold chooB at hC
  simp only at hC
  clear hM h0 h1 hlen
  cases sg with
  | true =>
    go_enter Tryz.func75, Tryz.ntmps75
    go_wp2_with fail
    go_ret
    exact ⟨rfl, bl2 HA1.out (HSB.out _)⟩
  | false =>
    by_cases hk : 0 ≤ ky
    · go_enter Tryz.func75, Tryz.ntmps75
      go_wp2_with fail
      go_ret
      exact ⟨rfl, bl2 HA1.out (HSB.out _)⟩
    · have hz : (8 : Int) < sz := by
        have e : decide (ky < 0) = true := by simp; omega
        rw [e] at hC
        simp at hC
        omega
      clear hC
      go_enter Tryz.func75, Tryz.ntmps75
      go_wp2_with fail
      go_ret
      exact ⟨rfl, bl2 HA1.out (HSB.out _)⟩
end Bw
end Go.Proofs.YtlnkhlifkooohaaGreatDoor
namespace Go.Proofs.YtlnkhlifkooohaaGreatDoor
open Go.ChangeShapes Go.WideShapes Go.ChangeAt Go.RowKit
namespace Bw
open Sm
theorem enter_above : ∀ args w, (callFunc 124 args).run Tryz.prog w = .ok (.enter 124 args) w := enters_of Tryz.func124 (by kernel_rfl) rfl
/-- the last call of choosesWell -/
theorem well_last (v : MsV) (g : Nat) (most : Int) (w W : World) (hM : MsIn w v) (hb : Below w.heap.size w W) (hg : W.cell? ⟨g, 0, none⟩ = some (.int .i64 most)) :
    Calls Tryz.prog 123 #[.slice v.a v.n v.cap, .func (.func 124) #[] #[.pointer (some ⟨g, 0, none⟩)]] W fun e w' => e = .returned (.bool (v.m.sigs.any fun s => decide (most < s.ky))) ∧ Below W.heap.size W w' :=
  containsFuncSg _ _ enter_above (fun s => decide (most < s.ky)) _ _ _ _ W (hM.row.kept hb) (fun W' x hb' _ => above_any x g most W' (cell_kept hb' hg))
set_option maxHeartbeats 8000000 in
set_option maxRecDepth 100000 in
theorem well_none (v : MsV) (w : World) (hM : MsIn w v) (h0 : v.m.ch < 0) :
    Calls Tryz.prog 75 #[msV v] w fun e w' => e = .returned (.bool (!(v.m.sigs.any fun s => decide (-1 < s.ky)))) ∧ Below w.heap.size w w' := by
  have HBX := Hid.mk (ms_box w v)
  have HA1 := Hid.mk (bl2 HBX.out (awB1 (w.alloc (msC v)) (.cells #[.int .i64 (-1)] 3)))
  have hS : (w.alloc (msC v)).heap.size = w.heap.size + 1 := by simp
  have hnew := cw_new (w.alloc (msC v)) (-1)
  rw [hS] at hnew
  have HL := Hid.mk (well_last v (w.heap.size + 1) (-1) w _ hM HA1.out hnew)
  generalize (v.m.sigs.any fun s => decide (-1 < s.ky)) = R at *
  obtain ⟨⟨mid, mlo, mnm, size, mch, sigs⟩, ma, mn, mcap⟩ := v
  unfold msC at HBX HA1 HL
  unfold msV
  simp only at HBX HA1 HL h0 ⊢
  clear hM hnew hS
  go_enter Tryz.func75, Tryz.ntmps75
  go_wp2_with fail
  refine HL.out.mono ?_
  rintro e w1 ⟨rfl, hb1⟩
  have HB1 := Hid.mk (bl2 HA1.out hb1)
  clear hb1
  go_wp2_with fail
  go_ret
  exact ⟨rfl, HB1.out⟩
set_option maxHeartbeats 8000000 in
set_option maxRecDepth 100000 in
theorem well_some (v : MsV) (w : World) (hM : MsIn w v) (h0 : 0 ≤ v.m.ch) (h1 : v.m.ch < (v.m.sigs.length : Int)) (hC : chooB (v.m.at v.m.ch.toNat) = true) (hz1 : 1 ≤ (v.m.at v.m.ch.toNat).sz) :
    Calls Tryz.prog 75 #[msV v] w fun e w' => e = .returned (.bool (!(v.m.sigs.any fun s => decide (mostI v.m < s.ky)))) ∧ Below w.heap.size w w' := by
  have HBX := Hid.mk (ms_box w v)
  have hlen : v.m.sigs.length = v.n := hM.row.len
  obtain ⟨c, hc⟩ : ∃ c : Nat, v.m.ch = c := ⟨v.m.ch.toNat, by omega⟩
  have hcn : c < v.n := by omega
  have hmost : mostI v.m = ((2 ^ (v.m.at c).sz.toNat : Nat) : Int) - 1 := by unfold mostI; rw [if_pos h0, hc, Int.toNat_natCast]
  rw [hc, Int.toNat_natCast] at hC hz1
  rw [hmost]
  obtain ⟨x, hx⟩ := hM.row.some hcn
  have hr := hM.row
  rw [hx] at hr
  have hA1 := awB1 (w.alloc (msC v)) (.cells #[.int .i64 (-1)] 3)
  have HA1 := Hid.mk (bl2 HBX.out hA1)
  have hS := (hr.kept HA1.out).at hcn
  have e9 : v.m.sigs.getD c noS = v.m.at c := rfl
  rw [e9] at hS
  have hz8 : (v.m.at c).sz ≤ 8 := by
    unfold chooB at hC
    simp only [Bool.and_eq_true, decide_eq_true_eq] at hC
    exact hC.2.2
  have hky : (v.m.at c).ky < 0 := by
    unfold chooB at hC
    simp only [Bool.and_eq_true, decide_eq_true_eq] at hC
    exact hC.2.1
  have hsgn : (v.m.at c).sg = false := by
    unfold chooB at hC
    simp only [Bool.and_eq_true] at hC
    simpa using hC.1
  obtain ⟨z, hz⟩ : ∃ z : Nat, (v.m.at c).sz = z := ⟨(v.m.at c).sz.toNat, by omega⟩
  have hpow := pow8 (n := z) (by omega)
  have HSB := Hid.mk (fun W => sg_box W (v.m.at c))
  have HLL := Hid.mk (fun g most W hb hg => well_last v g most w W hM hb hg)
  rw [hz, Int.toNat_natCast]
  rw [hz] at hz1 hz8
  clear e9 hr hC hmost
  have hm1 : (w.alloc (msC v)).heap.size = w.heap.size + 1 := by simp
  have hnew := heap_alloc_new (w.alloc (msC v)) (.cells #[.int .i64 (-1)] 3)
  rw [hm1] at hnew
  generalize v.m.at c = s at *
  obtain ⟨nm, st, sz, bk, sg, mu, di, ad, ky⟩ := s
  obtain ⟨⟨mid, mlo, mnm, size, mch, sigs⟩, ma, mn, mcap⟩ := v
  simp only at hc hx hcn hlen hz hky hsgn
  subst hc
  subst hx
  subst hz
  subst hsgn
  obtain ⟨s0, s1, s2, s3, s4, s5, s6, s7, s8⟩ := hS
  unfold msC at HBX HA1 s0 s1 s2 s3 s4 s5 s6 s7 s8 hnew
  unfold sgC at HSB
  unfold msV
  simp only at HBX HA1 HSB s0 s1 s2 s3 s4 s5 s6 s7 s8 hnew HLL ⊢
  have hcn' : (c : Int) < (mn : Int) := by omega
  have hcn0 : (0 : Int) ≤ (c : Int) := by omega
  have hz0 : (0 : Int) ≤ (z : Int) := by omega
  obtain ⟨K, hK⟩ : ∃ K : Int, K = ((2 ^ z : Nat) : Int) := ⟨_, rfl⟩
  have hK1 : (2 : Int) ^ z = K := by rw [hK]; simp
  have hK0 : 0 ≤ K := by rw [hK]; exact Int.natCast_nonneg _
  have hK8 : K ≤ 256 := by rw [hK]; exact Int.ofNat_le.2 hpow
  have e1 : wrap64 ((2 : Int) ^ z) = K := by
    rw [hK1]
    clear hK hK1
    unfold wrap64
    omega
  have e2 : wrap64 (K - 1) = K - 1 := by
    clear hK hK1 e1
    unfold wrap64
    omega
  rw [← hK]
  have hm2 : ((w.alloc (.cells #[.int .i64 mid, .bool mlo, .string mnm, .int .i64 size, .int .i64 (c : Int), .slice (some x) mn mcap] 24)).alloc (.cells #[.int .i64 (K - 1)] 3)).cell? ⟨w.heap.size + 1, 0, none⟩ = some (.int .i64 (K - 1)) := by
    have := cw_new (w.alloc (.cells #[.int .i64 mid, .bool mlo, .string mnm, .int .i64 size, .int .i64 (c : Int), .slice (some x) mn mcap] 24)) (K - 1)
    rw [show (w.alloc (.cells #[.int .i64 mid, .bool mlo, .string mnm, .int .i64 size, .int .i64 (c : Int), .slice (some x) mn mcap] 24)).heap.size = w.heap.size + 1 by simp] at this
    exact this
  have hA2 := bl2 HBX.out (awB1 _ (.cells #[.int .i64 (K - 1)] 3))
  have HA3 := Hid.mk (bl2 hA2 (HSB.out _))
  have HL := Hid.mk (HLL.out (w.heap.size + 1) (K - 1) _ HA3.out (cell_kept (HSB.out _) hm2))
  clear hM h0 h1 hlen hA1 hm1 hm2 hA2 hK1 hK HLL hnew hpow
  generalize (sigs.any fun s => decide (K - 1 < s.ky)) = R at *
  go_enter Tryz.func75, Tryz.ntmps75
  go_wp2_with fail
  refine HL.out.mono ?_
  rintro e w1 ⟨rfl, hb1⟩
  have HB1 := Hid.mk (bl2 HA3.out hb1)
  clear hb1
  go_wp2_with fail
  go_ret
  exact ⟨rfl, HB1.out⟩
theorem well_anyM (v : MsV) (w : World) (hM : MsIn w v) (h0 : -1 ≤ v.m.ch) (h1 : v.m.ch < (v.m.sigs.length : Int)) (hS : ∀ i, i < v.m.sigs.length → 1 ≤ (v.m.at i).sz) :
    Calls Tryz.prog 75 #[msV v] w fun e w' => e = .returned (.bool (wellB v.m)) ∧ Below w.heap.size w w' := by
  by_cases hc : v.m.ch < 0
  · have e : wellB v.m = !(v.m.sigs.any fun s => decide (-1 < s.ky)) := by
      unfold wellB mostI
      rw [if_neg (by omega)]
      simp [hc]
    rw [e]
    exact well_none v w hM hc
  · cases hb : chooB (v.m.at v.m.ch.toNat) with
    | false =>
      have e : wellB v.m = false := by
        unfold wellB
        rw [hb]
        simp [hc]
      rw [e]
      exact well_bad v w hM (by omega) h1 hb
    | true =>
      have e : wellB v.m = !(v.m.sigs.any fun s => decide (mostI v.m < s.ky)) := by
        unfold wellB
        rw [hb]
        simp
      rw [e]
      exact well_some v w hM (by omega) h1 hb (hS _ (by omega))
end Bw
end Go.Proofs.YtlnkhlifkooohaaGreatDoor
namespace Go.Proofs.YtlnkhlifkooohaaGreatDoor
open Go.ChangeShapes Go.WideShapes Go.ChangeAt Go.RowKit
namespace Bw
open Sm
theorem sz_one {s : Sig} {n : Int} (h : chkS s n = 0) : 1 ≤ s.sz := by
  obtain ⟨_, _, h3, _⟩ := chk_size h
  unfold numB at h3
  rw [Bool.and_eq_true] at h3
  exact (inB_iff.1 h3.1).1
set_option maxHeartbeats 16000000 in
set_option maxRecDepth 100000 in
theorem mcheck_any (v : MsV) (w : World) (hM : MsIn w v) (hS : SizesAt w) :
    Calls Tryz.prog 27 #[msV v] w fun e w' => e = .returned (.int .i64 (chkM v.m)) ∧ Below w.heap.size w w' := by
  have HBX := Hid.mk (ms_box w v)
  have HAT := Hid.mk (MsAt.box w v)
  have HN := Hid.mk (fun W => sname_any v.m.nm W hM.nm)
  have HFR := Hid.mk (fun W (h : Below w.heap.size w W) => frCheck_any v.m.id v.m.lo false false 0 none 0 0 W (hS.kept h) (Nat.zero_le _))
  have HSG := Hid.mk (fun W (h : Below w.heap.size w W) (h0 : 0 ≤ v.m.size) (h8 : v.m.size ≤ 8) => checkSignals_any v W (hM.kept h) h0 h8)
  have HWL := Hid.mk (fun W (h : Below w.heap.size w W) (h0 : sigsE v.m = 0) (h1 : -1 ≤ v.m.ch) (h2 : v.m.ch < (v.m.sigs.length : Int)) => well_anyM v W (hM.kept h) h1 h2 (fun i hi => by
    have h3 := firstE_zero h0 i hi
    unfold sigE at h3
    split at h3
    · rename_i h4; exact sz_one h4
    · rename_i h4; exact absurd h3 h4))
  have hlen : v.m.sigs.length = v.n := hM.row.len
  have hn : (v.n : Int) ≤ 9223372036854775807 := by have h1 := hM.row.le; have h2 := hM.row.max; unfold maxLen at h2; omega
  have hR : chkM v.m = (if nameB v.m.nm.data.toList = false then 1
  else if frEn v.m.id v.m.lo false false 0 0 ≠ 0 then frEn v.m.id v.m.lo false false 0 0
  else if v.m.size < 0 ∨ 8 < v.m.size then 3
  else if 16 < v.n then 2
  else if sigsE v.m ≠ 0 then sigsE v.m
  else if v.m.ch < -1 ∨ (v.n : Int) ≤ v.m.ch then 8
  else if wellB v.m = false then 4 else 0) := by unfold chkM; rw [hlen]
  rw [hR]
  rw [hlen] at HWL
  clear hR hM hS hlen
  generalize nameB v.m.nm.data.toList = NB at *
  generalize frEn v.m.id v.m.lo false false 0 0 = FE at *
  generalize sigsE v.m = SE at *
  generalize wellB v.m = WB at *
  obtain ⟨⟨mid, mlo, mnm, size, mch, sigs⟩, ma, mn, mcap⟩ := v
  unfold msC at HBX HAT
  unfold msV at HSG HWL ⊢
  unfold frameV at HFR
  simp only at HBX HAT HN HFR HSG HWL hn ⊢
  cases NB with
  | false =>
    rw [if_pos rfl]
    go_enter Tryz.func27, Tryz.ntmps27
    go_wp2_with fail
    refine (HN.out _).mono ?_
    rintro e w1 ⟨rfl, hb1⟩
    obtain rfl := hb1.symm
    go_wp2_with fail
    go_ret
    exact ⟨rfl, HBX.out⟩
  | true =>
    rw [if_neg (by simp)]
    by_cases h1 : FE = 0
    case neg =>
      rw [if_pos h1]
      have hne : (FE != 0) = true := by simpa using h1
      clear h1
      go_enter Tryz.func27, Tryz.ntmps27
      go_wp2_with fail
      refine (HN.out _).mono ?_
      rintro e w1 ⟨rfl, hb1⟩
      obtain rfl := hb1.symm
      go_wp2_with fail
      refine (HFR.out _ HBX.out).mono ?_
      rintro e w2 ⟨rfl, hb2⟩
      have HB2 := Hid.mk (bl2 HBX.out hb2)
      clear hb2
      go_wp2_with fail
      go_ret
      exact ⟨rfl, HB2.out⟩
    case pos =>
      subst h1
      rw [if_neg (by simp)]
      by_cases h2 : size < 0 ∨ 8 < size
      · rw [if_pos h2]
        go_enter Tryz.func27, Tryz.ntmps27
        go_wp2_with fail
        refine (HN.out _).mono ?_
        rintro e w1 ⟨rfl, hb1⟩
        obtain rfl := hb1.symm
        go_wp2_with fail
        refine (HFR.out _ HBX.out).mono ?_
        rintro e w2 ⟨rfl, hb2⟩
        have HB2 := Hid.mk (bl2 HBX.out hb2)
        obtain ⟨m0, m1, m2, m3, m4, m5⟩ := HAT.out.kept hb2
        simp only at m0 m1 m2 m3 m4 m5
        clear hb2
        by_cases h3 : size < 0
        · clear h2
          go_wp2_with fail
          go_ret
          exact ⟨rfl, HB2.out⟩
        · have h4 : 8 < size := by omega
          clear h2
          go_wp2_with fail
          go_ret
          exact ⟨rfl, HB2.out⟩
      · rw [if_neg h2]
        have s0 : 0 ≤ size := by omega
        have s8 : size ≤ 8 := by omega
        clear h2
        generalize hRR : (if 16 < mn then (2 : Int) else if SE ≠ 0 then SE else if mch < -1 ∨ (mn : Int) ≤ mch then 8 else if WB = false then 4 else 0) = R
        have HR := Hid.mk hRR
        clear hRR
        go_enter Tryz.func27, Tryz.ntmps27
        go_wp2_with fail
        refine (HN.out _).mono ?_
        rintro e w1 ⟨rfl, hb1⟩
        obtain rfl := hb1.symm
        go_wp2_with fail
        refine (HFR.out _ HBX.out).mono ?_
        rintro e w2 ⟨rfl, hb2⟩
        have HB2 := Hid.mk (bl2 HBX.out hb2)
        have HA2 := Hid.mk (HAT.out.kept hb2)
        obtain ⟨m0, m1, m2, m3, m4, m5⟩ := HA2.out
        simp only at m0 m1 m2 m3 m4 m5
        clear hb2 HFR HN HBX HAT
        by_cases h3 : 16 < mn
        · have HV : Hid (R = 2) := Hid.mk (by rw [← HR.out, if_pos h3])
          have h3' : (16 : Int) < (mn : Int) := by omega
          clear h3
          go_wp2_with fail
          go_ret
          exact ⟨by rw [HV.out]; rfl, HB2.out⟩
        · have HR1 : Hid (R = if SE ≠ 0 then SE else if mch < -1 ∨ (mn : Int) ≤ mch then 8 else if WB = false then 4 else 0) := Hid.mk (by rw [← HR.out, if_neg h3])
          have h3' : (mn : Int) ≤ 16 := by omega
          clear h3
          go_wp2_with fail
          refine (HSG.out _ HB2.out s0 s8).mono ?_
          rintro e w3 ⟨rfl, hb3⟩
          have HB3 := Hid.mk (bl2 HB2.out hb3)
          have HA3 := Hid.mk (HA2.out.kept hb3)
          obtain ⟨m0, m1, m2, m3, m4, m5⟩ := HA3.out
          simp only at m0 m1 m2 m3 m4 m5
          clear hb3 HB2 HA2 HSG
          by_cases h4 : SE = 0
          case neg =>
            have HV : Hid (R = SE) := Hid.mk (by rw [HR1.out, if_pos h4])
            have hne : (SE != 0) = true := by simpa using h4
            clear h4
            go_wp2_with fail
            go_ret
            exact ⟨by rw [HV.out]; rfl, HB3.out⟩
          case pos =>
            subst h4
            have HR2 : Hid (R = if mch < -1 ∨ (mn : Int) ≤ mch then 8 else if WB = false then 4 else 0) := Hid.mk (by rw [HR1.out, if_neg (by simp)])
            clear HR1 HR
            by_cases h5 : mch < -1 ∨ (mn : Int) ≤ mch
            · have HV : Hid (R = 8) := Hid.mk (by rw [HR2.out, if_pos h5])
              clear HR2
              by_cases h6 : mch < -1
              · clear h5
                go_wp2_with fail
                go_ret
                exact ⟨by rw [HV.out]; rfl, HB3.out⟩
              · have h7 : (mn : Int) ≤ mch := by omega
                clear h5
                go_wp2_with fail
                go_ret
                exact ⟨by rw [HV.out]; rfl, HB3.out⟩
            · have HR3 : Hid (R = if WB = false then 4 else 0) := Hid.mk (by rw [HR2.out, if_neg h5])
              clear HR2
              have h6 : -1 ≤ mch := by omega
              have h7 : mch < (mn : Int) := by omega
              clear h5
              go_wp2_with fail
              refine (HWL.out _ HB3.out trivial h6 h7).mono ?_
              rintro e w4 ⟨rfl, hb4⟩
              have HB4 := Hid.mk (bl2 HB3.out hb4)
              clear hb4
              cases WB with
              | true =>
                go_wp2_with fail
                go_ret
                exact ⟨by rw [HR3.out]; rfl, HB4.out⟩
              | false =>
                go_wp2_with fail
                go_ret
                exact ⟨by rw [HR3.out]; rfl, HB4.out⟩
end Bw
end Go.Proofs.YtlnkhlifkooohaaGreatDoor
