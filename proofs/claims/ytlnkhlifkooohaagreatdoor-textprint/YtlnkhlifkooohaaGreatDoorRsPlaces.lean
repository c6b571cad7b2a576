/- What the document's own PlacesOf answers. -/
import Derived.Test.YtlnkhlifkooohaaGreatDoorSgPls
namespace Go.Proofs.YtlnkhlifkooohaaGreatDoor
open Go.ChangeShapes Go.WideShapes Go.ChangeAt Go.RowKit Go.Sort
namespace Bw
open Sm
set_option maxHeartbeats 8000000 in
set_option maxRecDepth 100000 in
theorem placesOf_any (s : Sig) (st sz : Nat) (w : World) (hst : s.st = st) (hsz : s.sz = sz) (hs : st ≤ 1000) (h1 : 1 ≤ sz) (h40 : sz ≤ 40) :
    Calls Tryz.prog 61 #[sgV s] w fun e w' => ∃ g, e = .returned (.slice (some ⟨g, 0, none⟩) sz sz) ∧ w.heap.size ≤ g ∧
      w'.ownsRow w.heap.size 3 1 (.slice (some ⟨g, 0, none⟩) sz sz) sz (pnC (plsL s.bk st sz sz)) ∧ Below w.heap.size w w' := by
  obtain ⟨i0, hi, hz0, hz1, hz2⟩ := info_parts info_intP
  have HB := Hid.mk (sg_box w s)
  have HG := Hid.mk (SgAt.box w s)
  obtain ⟨nm, sta, sza, bk, sg, mu, di, ad, ky⟩ := s
  simp only at hst hsz
  subst hst
  subst hsz
  have HSET := Hid.mk (fun k hk => plsK_set bk st sz k hk)
  have HAT := Hid.mk (fun k hk => plsK_at bk st sz k hk)
  have HST0 := Hid.mk (plsK_start bk st sz)
  have HEND := Hid.mk (plsK_end bk st sz)
  unfold sgC at HB HG
  unfold sgV
  simp only at HB HG ⊢
  have a1 : (1 : Int) ≤ (sz : Int) := by omega
  have a2 : (sz : Int) ≤ 40 := by omega
  have a3 : (st : Int) ≤ 1000 := by omega
  go_enter Tryz.func61, Tryz.ntmps61
  obtain ⟨w1, hw1⟩ : ∃ w1, w1 = w.alloc (.cells #[.string nm, .int .i64 (st : Int), .int .i64 (sz : Int), .bool bk, .bool sg, .int .i64 mu, .int .i64 di, .int .i64 ad, .int .i64 ky] 42) := ⟨_, rfl⟩
  rw [← hw1] at HB HG
  have HS1 := Hid.mk (show w1.heap.size = w.heap.size + 1 by rw [hw1]; simp)
  cases bk with
  | false =>
    go_wp2_with (at_make; rw [← hw1]; clear hw1; refine wpList_make_full _ rfl (.tmp 9) (.tmp 9) 78 rfl w1.heap.size 3 i0 (.int .i64 0) 1 Tryz.underlying78 hi hz0 hz1 .i64 .i64 _ _ sz rfl rfl (by omega) (by omega) (by rw [hz2]; omega) (by unfold maxLen; omega) (Nat.le_refl _) ?_; intro w2 hown hgrow; have hb2 : Below w1.heap.size w1 w2 := Below.grown (Below.refl _ _) hgrow (Nat.le_refl _) (fun q hq => by cases hq); obtain ⟨k0, k1, k2, k3, k4, k5, k6, k7, k8⟩ := HG.out.kept hb2; simp only at k0 k1 k2 k3 k4 k5 k6 k7 k8)
    have hown0 : w2.ownsRow w1.heap.size 3 1 (.slice (some ⟨w1.heap.size, 0, none⟩) sz sz) sz (pnC (plsK false st sz 0)) := by
      rw [HST0.out, ← toList_madeCells_one]
      rw [Nat.mul_one] at hown
      exact hown
    have HO := Hid.mk hown0
    have HB2 := Hid.mk hb2
    clear hown hgrow hi hz0 hz1 hz2 hown0 hb2 k0 k1 k2 k3 k4 k5 k6 k7 k8
    go_loopw [16] (fun i wr => ∃ k : Nat, k ≤ sz ∧ i = .int .i64 k ∧ Hid (wr.ownsRow w1.heap.size 3 1 (.slice (some ⟨w1.heap.size, 0, none⟩) sz sz) sz (pnC (plsK false st sz k))) ∧ Hid (Below w1.heap.size w1 wr)) (fun i _ => sz - (intOf i).toNat)
    case atStart => exact ⟨0, Nat.zero_le _, rfl, HO, HB2⟩
    case round =>
      clear HO HB2
      obtain ⟨k, hk, rfl, HOk, HBk⟩ := hrel
      by_cases hlt : k < sz
      · have hlt' : (k : Int) < (sz : Int) := by omega
        have c1 := (HG.out.kept HBk.out).c1
        simp only at c1
        have hc3 := HOk.out.cellAt k (by omega)
        have hf3 := HOk.out.frozenAt k
        rw [HAT.out k hlt] at hc3
        have hst := HOk.out.stored k (.int .i64 (plN false st sz k : Int))
        rw [HSET.out k hlt] at hst
        have HST := Hid.mk hst
        clear hst
        go_wp2_with fail
        go_roundw
        case rel => exact ⟨k + 1, by omega, by go_num, Hid.mk HST.out.1, Hid.mk (HBk.out.grown HST.out.2 HBk.out.size (fun q hq => by cases hq; exact Nat.le_refl _))⟩
        case measure => simp [intOf]; omega
      · have e : k = sz := by omega
        subst e
        have hfin := HOk.out
        rw [HEND.out] at hfin
        have HF := Hid.mk hfin
        clear hfin
        go_wp2_with fail
        go_ret
        exact ⟨_, rfl, by rw [HS1.out]; exact Nat.le_succ _, owns_baseP HF.out HB.out.size, bl2 HB.out HBk.out⟩
  | true =>
    obtain ⟨F, hF⟩ : ∃ F, F = flipN st := ⟨_, rfl⟩
    have hrow : (st : Int) / 8 * 8 + 7 - (st : Int) % 8 = (F : Int) := by rw [hF]; unfold flipN; omega
    have hFb : (F : Int) ≤ 1007 := by rw [hF]; unfold flipN; omega
    have hplF : ∀ k, plN true st sz k = flipN (F + sz - 1 - k) := fun k => by rw [hF]; rfl
    have HPLF := Hid.mk hplF
    clear hF hplF
    go_wp2_with (at_make; rw [← hw1]; clear hw1; refine wpList_make_full _ rfl (.tmp 9) (.tmp 9) 78 rfl w1.heap.size 3 i0 (.int .i64 0) 1 Tryz.underlying78 hi hz0 hz1 .i64 .i64 _ _ sz rfl rfl (by omega) (by omega) (by rw [hz2]; omega) (by unfold maxLen; omega) (Nat.le_refl _) ?_; intro w2 hown hgrow; have hb2 : Below w1.heap.size w1 w2 := Below.grown (Below.refl _ _) hgrow (Nat.le_refl _) (fun q hq => by cases hq); obtain ⟨k0, k1, k2, k3, k4, k5, k6, k7, k8⟩ := HG.out.kept hb2; simp only at k0 k1 k2 k3 k4 k5 k6 k7 k8)
    have hown0 : w2.ownsRow w1.heap.size 3 1 (.slice (some ⟨w1.heap.size, 0, none⟩) sz sz) sz (pnC (plsK true st sz 0)) := by
      rw [HST0.out, ← toList_madeCells_one]
      rw [Nat.mul_one] at hown
      exact hown
    have HO := Hid.mk hown0
    have HB2 := Hid.mk hb2
    clear hown hgrow hi hz0 hz1 hz2 hown0 hb2 k0 k1 k2 k3 k4 k5 k6 k7 k8
    go_loopw [39] (fun i wr => ∃ k : Nat, k ≤ sz ∧ i = .int .i64 k ∧ Hid (wr.ownsRow w1.heap.size 3 1 (.slice (some ⟨w1.heap.size, 0, none⟩) sz sz) sz (pnC (plsK true st sz k))) ∧ Hid (Below w1.heap.size w1 wr)) (fun i _ => sz - (intOf i).toNat)
    case atStart => exact ⟨0, Nat.zero_le _, rfl, HO, HB2⟩
    case round =>
      clear HO HB2
      obtain ⟨k, hk, rfl, HOk, HBk⟩ := hrel
      by_cases hlt : k < sz
      · have hlt' : (k : Int) < (sz : Int) := by omega
        have c2 := (HG.out.kept HBk.out).c2
        simp only at c2
        have hc3 := HOk.out.cellAt k (by omega)
        have hf3 := HOk.out.frozenAt k
        rw [HAT.out k hlt] at hc3
        obtain ⟨N, hN⟩ : ∃ N, N = F + sz - 1 - k := ⟨_, rfl⟩
        have hn : (F : Int) + (sz : Int) - 1 - (k : Int) = (N : Int) := by omega
        have hNb : (N : Int) ≤ 2000 := by omega
        obtain ⟨p, hp⟩ : ∃ p, p = plN true st sz k := ⟨_, rfl⟩
        have hpe : (N : Int) / 8 * 8 + 7 - (N : Int) % 8 = (p : Int) := by rw [hp, HPLF.out, ← hN]; unfold flipN; omega
        have hst := HOk.out.stored k (.int .i64 (p : Int))
        rw [hp, HSET.out k hlt, ← hp] at hst
        have HST := Hid.mk hst
        clear hst hN hp
        go_wp2_with fail
        go_roundw
        case rel => exact ⟨k + 1, by omega, by go_num, Hid.mk HST.out.1, Hid.mk (HBk.out.grown HST.out.2 HBk.out.size (fun q hq => by cases hq; exact Nat.le_refl _))⟩
        case measure => simp [intOf]; omega
      · have e : k = sz := by omega
        subst e
        have hfin := HOk.out
        rw [HEND.out] at hfin
        have HF := Hid.mk hfin
        clear hfin
        go_wp2_with fail
        go_ret
        exact ⟨_, rfl, by rw [HS1.out]; exact Nat.le_succ _, owns_baseP HF.out HB.out.size, bl2 HB.out HBk.out⟩
end Bw
end Go.Proofs.YtlnkhlifkooohaaGreatDoor
