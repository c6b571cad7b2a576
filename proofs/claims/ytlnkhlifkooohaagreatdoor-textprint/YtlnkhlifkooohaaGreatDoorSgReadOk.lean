/- What signal.Read answers of a right signal. -/
import Derived.Test.YtlnkhlifkooohaaGreatDoorSgRead
namespace Go.Proofs.YtlnkhlifkooohaaGreatDoor
open Go.ChangeShapes Go.WideShapes Go.ChangeAt Go.RowKit Go.Sort
namespace Bw
open Sm
theorem dwS (w : World) : Below w.heap.size w w.drew := ⟨rfl, rfl, rfl, Nat.le_refl _, fun _ _ => rfl⟩
/-- what a raw number means, before it is made small -/
def meanN (s : Sig) (r : Int) : Int := r * s.mu + s.ad * s.di
theorem mean_bound {s : Sig} {st sz n : Nat} (h : Rt s st sz n) {r : Int} (h1 : -1099511627776 ≤ r) (h2 : r ≤ 1099511627776) :
    (-1099511627776000000 ≤ r * s.mu ∧ r * s.mu ≤ 1099511627776000000) ∧ (-1000000000000 ≤ s.ad * s.di ∧ s.ad * s.di ≤ 1000000000000) := by
  have b1 := mul_bound (a := r) (b := s.mu) (A := 1099511627776) (B := 1000000) (by omega) (by omega) (by have := h.mu1; omega) (by have := h.mu2; omega)
  have b2 := mul_bound (a := s.ad) (b := s.di) (A := 1000000) (B := 1000000) (by have := h.ad1; omega) (by have := h.ad2; omega) (by have := h.di1; omega) (by have := h.di2; omega)
  omega
set_option maxHeartbeats 16000000 in
set_option maxRecDepth 100000 in
theorem sread_ok (s : Sig) (st sz : Nat) (a : Option Addr) (len cap : Nat) (l : List UInt8) (w : World) (h : wfS s) (hD : IsBytes w a len cap l) (hE : chkS s len = 0) (hR : Rt s st sz len) :
    Calls Tryz.prog 86 #[sgV s, .slice a len cap] w fun e w' => e = .returned (.tuple #[.int .i64 (rawR s st sz l), rdV s.nm (numL (meanN s (rawR s st sz l)) s.di) (denL (meanN s (rawR s st sz l)) s.di), .int .i64 0]) ∧ Below w.heap.size w w' := by
  have HB := Hid.mk (rW0_B w s)
  have HZ := Hid.mk (rW0_r w s)
  have HG := Hid.mk (rW0_s w s)
  have hC := fun W => scheck_any s len W h
  rw [hE] at hC
  have hst := hR.hst
  have hsz := hR.hsz
  have h1 := hR.s1
  have h40 := hR.s40
  have hstb := hR.st_lt
  have hn64 := hR.n64
  have HP := Hid.mk (fun (k : Nat) (hk : k < sz) W => by
    have := place_any s (k : Int) W (by rw [hst]; omega) (by rw [hsz]; omega) (by rw [hsz]; omega)
    rw [hR.pl hk] at this
    exact this)
  have HPL := Hid.mk (fun (k : Nat) (hk : k < sz) => hR.pl_lt hk)
  have hS := fun W => span_any s st sz len W hR
  have hul := uN_lt s.bk st sz l
  have hud : uN s.bk st sz l = sumK (fun i => bitN l (plN s.bk st sz i)) sz := rfl
  have hgt := rawS_gt (sg := s.sg) (n := sz) (u := (uN s.bk st sz l : Nat)) h1 (by
    have e : ((2 ^ sz : Nat) : Int) = 2 ^ sz := by simp
    rw [← e]; omega)
  have hbd := fun r b1 b2 => mean_bound hR (r := r) b1 b2
  have hspan := rawS_span (sg := s.sg) (n := sz) (u := (uN s.bk st sz l : Nat)) h1 (by omega) (by
    have e : ((2 ^ sz : Nat) : Int) = 2 ^ sz := by simp
    rw [← e]; omega)
  have hR0 : rawR s st sz l = rawS s.sg sz (uN s.bk st sz l) := rfl
  rw [← hR0] at hgt hspan
  have hlow := fun n d W a b c d' => lowest_any n d W a b c d'
  have hdi1 := hR.di1
  have hdi2 := hR.di2
  unfold meanN
  generalize rawR s st sz l = R at *
  generalize uN s.bk st sz l = U at *
  have hp40 := pow_le40 h40
  have hpow : ((2 ^ sz : Nat) : Int) = 2 ^ sz := by simp
  have hhigh : -1099511627776 ≤ lowS s.sg sz ∧ highS s.sg sz ≤ 1099511627776 := by
    have e := pow_half h1
    have hp : (0 : Int) < 2 ^ (sz - 1) := Int.pow_pos (by omega)
    unfold lowS highS
    cases s.sg <;> simp only [Bool.false_eq_true, if_false, if_true] <;> omega
  generalize lowS s.sg sz = lo at *
  generalize highS s.sg sz = hi at *
  obtain ⟨nm, sta, sza, bk, sg, mu, di, ad, ky⟩ := s
  simp only at hst hsz
  subst hst
  subst hsz
  unfold rW0 sgC rdC at HB HZ HG
  unfold sgV at hC HP hS ⊢
  simp only at HB HZ HG hC HP HPL hS hud hbd hdi1 hdi2 ⊢
  have a1 : (1 : Int) ≤ (sz : Int) := by omega
  have a2 : (sz : Int) ≤ 40 := by omega
  have hlen : (len : Int) ≤ 64 := by omega
  have hRb : -1099511627776 ≤ R ∧ R ≤ 1099511627776 := by omega
  obtain ⟨⟨b1, b2⟩, b3, b4⟩ := hbd R hRb.1 hRb.2
  obtain ⟨M, hM⟩ : ∃ M, M = R * mu := ⟨_, rfl⟩
  obtain ⟨AD, hAD⟩ : ∃ AD, AD = ad * di := ⟨_, rfl⟩
  rw [← hM] at b1 b2
  rw [← hAD] at b3 b4
  have hM' : IntKind.i64.wrap (R * mu) = M := by rw [IntKind.wrap_i64, ← hM]; omega
  have hAD' : IntKind.i64.wrap (ad * di) = AD := by rw [IntKind.wrap_i64, ← hAD]; omega
  rw [← hM, ← hAD]
  have HLOW := Hid.mk (fun W => hlow (M + AD) di W hdi1 (by omega) (by omega) (by omega))
  obtain ⟨Z, hZ⟩ : ∃ Z : Int, Z = 2 ^ sz := ⟨_, rfl⟩
  have hZ' : IntKind.i64.wrap (1 * 2 ^ sz) = Z := by rw [IntKind.wrap_i64, ← hZ]; omega
  have hZ2 : IntKind.i64.wrap (2 ^ sz) = Z := by rw [IntKind.wrap_i64, ← hZ]; omega
  rw [← hZ] at hgt
  have hZ3 : Z ≤ 1099511627776 := by omega
  have hZ4 : 0 < Z := by omega
  have hUZ : (U : Int) < Z := by omega
  have HGT := Hid.mk hgt
  have HD := Hid.mk hD
  have HU := Hid.mk hud
  have HS := Hid.mk hS
  have hlen0 : 1 ≤ len := by have := hstb; omega
  clear h hE hR hstb hn64 hM hAD hlow hul hspan hR0 hp40 hpow hhigh hbd hgt hD hud hS hZ hRb hdi2
  go_enter Tryz.func86, Tryz.ntmps86
  go_wp2_with fail
  refine (hC _).mono ?_
  rintro e w1 ⟨rfl, hb1⟩
  have HB1 := Hid.mk (bl2 HB.out hb1)
  have HG1 := Hid.mk (HG.out.kept hb1)
  have HZ1 := Hid.mk (HZ.out.kept hb1)
  have k2 := HG1.out.c2
  simp only at k2
  clear hb1 HB HG HZ hC
  go_wp2_with fail
  go_loopw [4, 23] (fun r i wr => ∃ k u : Nat, k ≤ sz ∧ i = .int .i64 k ∧ r = .int .i64 u ∧ u < 1099511627776 ∧ Hid (u = sumK (fun i => bitN l (plN bk st sz i)) k) ∧ Hid (Below w1.heap.size w1 wr)) (fun _ i _ => sz - (intOf i).toNat)
  case atStart => exact ⟨0, 0, Nat.zero_le _, rfl, rfl, by omega, Hid.mk rfl, Hid.mk (Below.refl _ _)⟩
  case round =>
    clear k2
    obtain ⟨k, u, hk, rfl, rfl, hub, HUk, HBk⟩ := hrel
    by_cases hlt : k < sz
    · have hlt' : (k : Int) < (sz : Int) := by omega
      obtain ⟨c0, c1, c2, c3, c4, c5, c6, c7, c8⟩ := HG1.out.kept HBk.out
      simp only at c0 c1 c2 c3 c4 c5 c6 c7 c8
      have hPk := HP.out k hlt
      have hpl := HPL.out k hlt
      have hb := bitN_lt l (plN bk st sz k)
      have hbd : bitN l (plN bk st sz k) = (l.getD (plN bk st sz k / 8) 0).toNat / 2 ^ (plN bk st sz k % 8) % 2 := rfl
      have hsum : sumK (fun i => bitN l (plN bk st sz i)) (k + 1) = sumK (fun i => bitN l (plN bk st sz i)) k + bitN l (plN bk st sz k) * 2 ^ k := rfl
      have hul : u < 2 ^ k := by rw [HUk.out]; exact sumK_lt (fun _ _ => bitN_lt _ _)
      have hk40 : 2 ^ k ≤ 2 ^ 39 := Nat.pow_le_pow_right (by omega) (by omega)
      have hor := or_sum (u := u) (b := bitN l (plN bk st sz k)) (k := k) hul hb (by omega)
      have hBb : bitN l (plN bk st sz k) * 2 ^ k ≤ 1 * 2 ^ k := Nat.mul_le_mul_right _ (by omega)
      rw [← HUk.out] at hsum
      have HSUM := Hid.mk hsum
      cases a with
      | none => exact absurd (HD.out.2.2.2.1 rfl) (by omega)
      | some x =>
        have hcell := cell_kept HB1.out (HD.out.2.2.2.2 x rfl (plN bk st sz k / 8) (by omega))
        have hcell2 := cell_kept HBk.out hcell
        have hc256 : (l.getD (plN bk st sz k / 8) 0).toNat < 256 := UInt8.toNat_lt _
        have hsa := shr_and hc256 (show plN bk st sz k % 8 < 8 by omega)
        rw [← hbd] at hsa
        generalize (l.getD (plN bk st sz k / 8) 0).toNat = c at *
        generalize bitN l (plN bk st sz k) = b at *
        generalize plN bk st sz k = p at *
        obtain ⟨B, hB⟩ : ∃ B, B = b * 2 ^ k := ⟨_, rfl⟩
        rw [← hB] at hor hBb HSUM
        have hsh : IntKind.i64.wrap ((b : Int) * 2 ^ k) = (B : Int) := by
          have e : (b : Int) * 2 ^ k = (B : Int) := by rw [hB]; simp
          rw [e, IntKind.wrap_i64]; omega
        have hub2 : u + B < 1099511627776 := by omega
        have hp8 : ((p : Int) / 8).toNat = p / 8 := by omega
        have hp9 : ((p : Int) % 8).toNat = p % 8 := by omega
        have hpl' : (p : Int) < 8 * (len : Int) := by omega
        have hb' : (b : Int) ≤ 1 := by omega
        clear hbd hsum hB hul hk40 hBb hcell hb hpl hc256
        go_wp2_with fail
        refine (hPk _).mono ?_
        rintro e wq ⟨rfl, hbq⟩
        have HBq := Hid.mk (bl2 HBk.out hbq)
        have hcell3 := cell_kept hbq hcell2
        clear hbq c0 c1 c2 c3 c4 c5 c6 c7 c8 hPk hcell2
        go_wp2_with fail
        go_roundw
        case rel => exact ⟨k + 1, u + B, by omega, by go_num, by go_num, hub2, Hid.mk (by rw [HSUM.out]), HBq⟩
        case measure => simp [intOf]; omega
    · have e : k = sz := by omega
      subst e
      have hUu : u = U := by rw [HU.out]; exact HUk.out
      subst hUu
      have HG2 := Hid.mk (HG1.out.kept HBk.out)
      have HZ2 := Hid.mk (HZ1.out.kept HBk.out)
      have HB2 := Hid.mk (bl2 HB1.out HBk.out)
      obtain ⟨c0, c1, c2, c3, c4, c5, c6, c7, c8⟩ := HG2.out
      simp only at c0 c1 c2 c3 c4 c5 c6 c7 c8
      clear HG1 HZ1 HB1 HBk HUk HU
      go_wp2_with fail
      refine (HS.out _).mono ?_
      rintro e w3 ⟨rfl, hb3⟩
      have HG3 := Hid.mk (HG2.out.kept hb3)
      have HZ3 := Hid.mk (HZ2.out.kept hb3)
      have HB3 := Hid.mk (bl2 HB2.out hb3)
      clear hb3 HG2 HZ2 HB2 c0 c1 c2 c3 c4 c5 c6 c7 c8
      obtain ⟨c0, c1, c2, c3, c4, c5, c6, c7, c8⟩ := HG3.out
      simp only at c0 c1 c2 c3 c4 c5 c6 c7 c8
      by_cases hg : hi < (u : Int)
      · have hRu' : (u : Int) - Z = R := (HGT.out.1 hg).symm
        have hM2 : IntKind.i64.wrap (((u : Int) - Z) * mu) = M := by rw [hRu']; exact hM'
        have HRU := Hid.mk hRu'
        clear hRu' HGT hM'
        go_wp2_with fail
        refine (HLOW.out _).mono ?_
        rintro e w4 ⟨rfl, hb4⟩
        have HG4 := Hid.mk (HG3.out.kept hb4)
        have HZ4 := Hid.mk (HZ3.out.kept hb4)
        have HB4 := Hid.mk (bl2 HB3.out hb4)
        clear hb4 HG3 HZ3 HB3 c0 c1 c2 c3 c4 c5 c6 c7 c8 hM2 hAD' hZ' hZ2 HLOW hg
        generalize hNU : numL (M + AD) di = NU
        generalize hDE : denL (M + AD) di = DE
        have HNU := Hid.mk hNU
        have HDE := Hid.mk hDE
        clear hNU hDE
        have c0 := HG4.out.c0
        simp only at c0
        obtain ⟨⟨q0, q1, q2⟩, f0, f1, f2⟩ := HZ4.out.cells
        obtain ⟨_, _, hF⟩ := HZ4.out.store nm NU DE
        have HF := Hid.mk hF
        clear hF
        go_wp2_with fail
        go_region
        go_wp2_with fail
        refine bodyPost_ret (sread_res _ _ (w.heap.size + 1) _ _ _ _ _ rfl rfl rfl HF.out) rfl ?_
        exact ⟨by rw [← HRU.out, HNU.out, HDE.out]; rfl, (setB3 HB4.out (Nat.le_succ _) _ _ _).drew⟩
      · have hRu' : (u : Int) = R := (HGT.out.2 (by omega)).symm
        have hM2 : IntKind.i64.wrap ((u : Int) * mu) = M := by rw [hRu']; exact hM'
        have HRU := Hid.mk hRu'
        have hg' : (u : Int) ≤ hi := by omega
        clear hRu' HGT hM'
        go_wp2_with fail
        refine (HLOW.out _).mono ?_
        rintro e w4 ⟨rfl, hb4⟩
        have HG4 := Hid.mk (HG3.out.kept hb4)
        have HZ4 := Hid.mk (HZ3.out.kept hb4)
        have HB4 := Hid.mk (bl2 HB3.out hb4)
        clear hb4 HG3 HZ3 HB3 c0 c1 c2 c3 c4 c5 c6 c7 c8 hM2 hAD' hZ' hZ2 HLOW hg
        generalize hNU : numL (M + AD) di = NU
        generalize hDE : denL (M + AD) di = DE
        have HNU := Hid.mk hNU
        have HDE := Hid.mk hDE
        clear hNU hDE
        have c0 := HG4.out.c0
        simp only at c0
        obtain ⟨⟨q0, q1, q2⟩, f0, f1, f2⟩ := HZ4.out.cells
        obtain ⟨_, _, hF⟩ := HZ4.out.store nm NU DE
        have HF := Hid.mk hF
        clear hF
        go_wp2_with fail
        go_region
        go_wp2_with fail
        refine bodyPost_ret (sread_res _ _ (w.heap.size + 1) _ _ _ _ _ rfl rfl rfl HF.out) rfl ?_
        exact ⟨by rw [← HRU.out, HNU.out, HDE.out]; rfl, (setB3 HB4.out (Nat.le_succ _) _ _ _).drew⟩
end Bw
end Go.Proofs.YtlnkhlifkooohaaGreatDoor
