/- What the document's own CheckSignal answers. -/
import Derived.Test.YtlnkhlifkooohaaGreatDoorRsName
import Derived.Test.YtlnkhlifkooohaaGreatDoorRsPlaces
namespace Go.Proofs.YtlnkhlifkooohaaGreatDoor
open Go.ChangeShapes Go.WideShapes Go.ChangeAt Go.RowKit Go.Sort
namespace Bw
open Sm
set_option maxHeartbeats 1000000 in
theorem inR_any (n lo hi : Int) (w : World) :
    Calls Tryz.prog 82 #[.int .i64 n, .int .i64 lo, .int .i64 hi] w fun e w' => e = .returned (.bool (inB n lo hi)) ∧ w' = w := by
  by_cases h0 : lo ≤ n
  · by_cases h1 : n ≤ hi
    · rw [inB_yes ⟨h0, h1⟩]
      go_enter Tryz.func82, Tryz.ntmps82
      go_wp2_with fail
      go_ret
      exact ⟨rfl, rfl⟩
    · rw [inB_no (fun h => h1 h.2)]
      go_enter Tryz.func82, Tryz.ntmps82
      go_wp2_with fail
      go_ret
      exact ⟨rfl, rfl⟩
  · rw [inB_no (fun h => h0 h.1)]
    go_enter Tryz.func82, Tryz.ntmps82
    go_wp2_with fail
    go_ret
    exact ⟨rfl, rfl⟩
theorem chk_name {s : Sig} {size : Int} (h : nameB s.nm.data.toList = false) : chkS s size = 1 := by unfold chkS; rw [if_pos h]
theorem chk_num {s : Sig} {size : Int} (h : nameB s.nm.data.toList = true) (h2 : (inB size 0 64 && numB s) = false) : chkS s size = 3 := by unfold chkS; rw [if_neg (by rw [h]; simp), if_pos h2]
theorem chk_far {s : Sig} {size : Int} (h : nameB s.nm.data.toList = true) (h2 : (inB size 0 64 && numB s) = true) (h3 : ¬ (0 ≤ s.st ∧ s.st ≤ 8 * size - 1)) : chkS s size = 7 := by
  unfold chkS
  rw [if_neg (by rw [h]; simp), if_neg (by rw [h2]; simp), if_pos]
  simp only [Bool.and_eq_true] at h2
  have hz : 1 ≤ s.sz := by
    have := h2.2
    unfold numB at this
    simp only [Bool.and_eq_true, inB_iff] at this
    exact this.1.1
  apply inB_no
  intro h4
  apply h3
  unfold fsI at h4
  have hs := inB_iff.1 h2.1
  split at h4
  · unfold flipI at h4; omega
  · omega
theorem chk_place {s : Sig} {size st sz : Nat} (h : nameB s.nm.data.toList = true) (h2 : (inB size 0 64 && numB s) = true) (hst : s.st = st) (hsz : s.sz = sz) {k : Nat} (hk : k < sz) (h3 : ¬ plN s.bk st sz k < 8 * size) : chkS s size = 7 := by
  unfold chkS
  rw [if_neg (by rw [h]; simp), if_neg (by rw [h2]; simp), if_pos]
  apply inB_no
  intro h4
  apply h3
  unfold fsI at h4
  rw [hst, hsz] at h4
  refine plN_lt hk ?_
  cases hb : s.bk with
  | true => rw [hb, if_pos rfl, flipI_nat] at h4; simp only [fsN]; omega
  | false => rw [hb, if_neg (by simp)] at h4; simp only [fsN]; omega
theorem chk_right {s : Sig} {size st sz : Nat} (h : nameB s.nm.data.toList = true) (h2 : (inB size 0 64 && numB s) = true) (hst : s.st = st) (hsz : s.sz = sz) (h1 : 1 ≤ sz) (h3 : ∀ k, k < sz → plN s.bk st sz k < 8 * size) : chkS s size = 0 := by
  unfold chkS
  rw [if_neg (by rw [h]; simp), if_neg (by rw [h2]; simp), if_neg]
  rw [Bool.not_eq_false]
  apply inB_yes
  unfold fsI
  rw [hst, hsz]
  cases hb : s.bk with
  | true =>
    rw [if_pos rfl, flipI_nat]
    have := h3 0 (by omega)
    rw [hb] at this
    simp only [plN] at this
    rw [flip_lt] at this
    omega
  | false =>
    rw [if_neg (by simp)]
    have := h3 (sz - 1) (by omega)
    rw [hb] at this
    simp only [plN] at this
    omega
theorem cell_pls {w : World} {base g : Nat} {bk : Bool} {st sz : Nat} (h : w.ownsRow base 3 1 (.slice (some ⟨g, 0, none⟩) sz sz) sz (pnC (plsL bk st sz sz))) {k : Nat} (hk : k < sz) : w.cell? ⟨g, k, none⟩ = some (.int .i64 (plN bk st sz k : Int)) := by
  rw [h.cellAt k (by omega)]
  simp [pnC, plsL, hk]
set_option maxHeartbeats 16000000 in
set_option maxRecDepth 100000 in
theorem checkSignal_any (s : Sig) (size : Int) (w : World) (h : wfS s) :
    Calls Tryz.prog 33 #[sgV s, .int .i64 size] w fun e w' => e = .returned (.int .i64 (chkS s size)) ∧ Below w.heap.size w w' := by
  have HB := Hid.mk (sg_box w s)
  have HG := Hid.mk (SgAt.box w s)
  have hN := fun W => isName_any s.nm W h.2
  have HPL := Hid.mk (fun st sz W hst hsz hs h1 h40 => placesOf_any s st sz W hst hsz hs h1 h40)
  have HE1 := Hid.mk (fun hn => chk_name (s := s) (size := size) hn)
  have HE2 := Hid.mk (fun hn h2 => chk_num (s := s) (size := size) hn h2)
  have HE3 := Hid.mk (fun hn h2 h3 => chk_far (s := s) (size := size) hn h2 h3)
  have HE4 := Hid.mk (fun n st sz hn h2 hst hsz k hk h3 => chk_place (s := s) (size := n) (st := st) (sz := sz) hn h2 hst hsz (k := k) hk h3)
  have HE5 := Hid.mk (fun n st sz hn h2 hst hsz h1 h3 => chk_right (s := s) (size := n) (st := st) (sz := sz) hn h2 hst hsz h1 h3)
  have hnum : numB s = (inB s.sz 1 40 && (!(s.mu == 0) && (inB s.mu (-1000000) 1000000 && (inB s.di 1 1000000 && (inB s.ad (-1000000) 1000000 && inB s.ky (-1) 255))))) := rfl
  rw [hnum] at HE2 HE3 HE4 HE5
  obtain ⟨nm, st0, sz0, bk, sg, mu, di, ad, ky⟩ := s
  unfold sgC at HB HG
  unfold sgV at HPL ⊢
  simp only at HB HG hN HPL HE1 HE2 HE3 HE4 HE5 ⊢
  have hI0 := fun W => inR_any size 0 64 W
  have hI1 := fun W => inR_any sz0 1 40 W
  have hI3 := fun W => inR_any mu (-1000000) 1000000 W
  have hI4 := fun W => inR_any di 1 1000000 W
  have hI5 := fun W => inR_any ad (-1000000) 1000000 W
  have hI6 := fun W => inR_any ky (-1) 255 W
  clear hnum h
  generalize hEn : nameB nm.data.toList = en at *
  cases en with
  | false =>
    rw [HE1.out rfl]
    clear hI0 hI1 hI3 hI4 hI5 hI6 HE2 HE3 HE4 HE5 HPL hEn
    go_enter Tryz.func33, Tryz.ntmps33
    go_wp2_with fail
    refine (hN _).mono ?_
    rintro e w1 ⟨rfl, hb1⟩
    go_wp2_with fail
    go_ret
    exact ⟨rfl, bl2 HB.out hb1⟩
  | true =>
    generalize hK0 : inB size 0 64 = e0 at *
    cases e0 with
    | false =>
      rw [HE2.out rfl (by simp)]
      clear HE1 HE2 HE3 HE4 HE5 HPL
      go_enter Tryz.func33, Tryz.ntmps33
      go_wp2_with fail
      refine (hN _).mono ?_
      rintro e w1 ⟨rfl, hb1⟩
      have HB1 := Hid.mk (bl2 HB.out hb1)
      have HG1 := Hid.mk (HG.out.kept hb1)
      obtain ⟨k0, k1, k2, k3, k4, k5, k6, k7, k8⟩ := HG1.out
      simp only at k0 k1 k2 k3 k4 k5 k6 k7 k8
      clear hb1
      go_wp2_with fail
      refine (hI0 _).mono ?_
      rintro e v0 ⟨rfl, hv0⟩
      obtain rfl := hv0.symm
      go_wp2_with fail
      go_ret
      exact ⟨rfl, HB1.out⟩
    | true =>
      generalize hK1 : inB sz0 1 40 = e1 at *
      cases e1 with
      | false =>
        rw [HE2.out rfl (by simp)]
        clear HE1 HE2 HE3 HE4 HE5 HPL
        go_enter Tryz.func33, Tryz.ntmps33
        go_wp2_with fail
        refine (hN _).mono ?_
        rintro e w1 ⟨rfl, hb1⟩
        have HB1 := Hid.mk (bl2 HB.out hb1)
        have HG1 := Hid.mk (HG.out.kept hb1)
        obtain ⟨k0, k1, k2, k3, k4, k5, k6, k7, k8⟩ := HG1.out
        simp only at k0 k1 k2 k3 k4 k5 k6 k7 k8
        clear hb1
        go_wp2_with fail
        refine (hI0 _).mono ?_
        rintro e v0 ⟨rfl, hv0⟩
        obtain rfl := hv0.symm
        go_wp2_with fail
        refine (hI1 _).mono ?_
        rintro e v1 ⟨rfl, hv1⟩
        obtain rfl := hv1.symm
        go_wp2_with fail
        go_ret
        exact ⟨rfl, HB1.out⟩
      | true =>
        generalize hM : (mu == 0) = e2 at *
        cases e2 with
        | true =>
          rw [HE2.out rfl (by simp)]
          clear HE1 HE2 HE3 HE4 HE5 HPL
          go_enter Tryz.func33, Tryz.ntmps33
          go_wp2_with fail
          refine (hN _).mono ?_
          rintro e w1 ⟨rfl, hb1⟩
          have HB1 := Hid.mk (bl2 HB.out hb1)
          have HG1 := Hid.mk (HG.out.kept hb1)
          obtain ⟨k0, k1, k2, k3, k4, k5, k6, k7, k8⟩ := HG1.out
          simp only at k0 k1 k2 k3 k4 k5 k6 k7 k8
          clear hb1
          go_wp2_with fail
          refine (hI0 _).mono ?_
          rintro e v0 ⟨rfl, hv0⟩
          obtain rfl := hv0.symm
          go_wp2_with fail
          refine (hI1 _).mono ?_
          rintro e v1 ⟨rfl, hv1⟩
          obtain rfl := hv1.symm
          go_wp2_with fail
          go_ret
          exact ⟨rfl, HB1.out⟩
        | false =>
          generalize hK3 : inB mu (-1000000) 1000000 = e3 at *
          cases e3 with
          | false =>
            rw [HE2.out rfl (by simp)]
            clear HE1 HE2 HE3 HE4 HE5 HPL
            go_enter Tryz.func33, Tryz.ntmps33
            go_wp2_with fail
            refine (hN _).mono ?_
            rintro e w1 ⟨rfl, hb1⟩
            have HB1 := Hid.mk (bl2 HB.out hb1)
            have HG1 := Hid.mk (HG.out.kept hb1)
            obtain ⟨k0, k1, k2, k3, k4, k5, k6, k7, k8⟩ := HG1.out
            simp only at k0 k1 k2 k3 k4 k5 k6 k7 k8
            clear hb1
            go_wp2_with fail
            refine (hI0 _).mono ?_
            rintro e v0 ⟨rfl, hv0⟩
            obtain rfl := hv0.symm
            go_wp2_with fail
            refine (hI1 _).mono ?_
            rintro e v1 ⟨rfl, hv1⟩
            obtain rfl := hv1.symm
            go_wp2_with fail
            refine (hI3 _).mono ?_
            rintro e v3 ⟨rfl, hv3⟩
            obtain rfl := hv3.symm
            go_wp2_with fail
            go_ret
            exact ⟨rfl, HB1.out⟩
          | true =>
            generalize hK4 : inB di 1 1000000 = e4 at *
            cases e4 with
            | false =>
              rw [HE2.out rfl (by simp)]
              clear HE1 HE2 HE3 HE4 HE5 HPL
              go_enter Tryz.func33, Tryz.ntmps33
              go_wp2_with fail
              refine (hN _).mono ?_
              rintro e w1 ⟨rfl, hb1⟩
              have HB1 := Hid.mk (bl2 HB.out hb1)
              have HG1 := Hid.mk (HG.out.kept hb1)
              obtain ⟨k0, k1, k2, k3, k4, k5, k6, k7, k8⟩ := HG1.out
              simp only at k0 k1 k2 k3 k4 k5 k6 k7 k8
              clear hb1
              go_wp2_with fail
              refine (hI0 _).mono ?_
              rintro e v0 ⟨rfl, hv0⟩
              obtain rfl := hv0.symm
              go_wp2_with fail
              refine (hI1 _).mono ?_
              rintro e v1 ⟨rfl, hv1⟩
              obtain rfl := hv1.symm
              go_wp2_with fail
              refine (hI3 _).mono ?_
              rintro e v3 ⟨rfl, hv3⟩
              obtain rfl := hv3.symm
              go_wp2_with fail
              refine (hI4 _).mono ?_
              rintro e v4 ⟨rfl, hv4⟩
              obtain rfl := hv4.symm
              go_wp2_with fail
              go_ret
              exact ⟨rfl, HB1.out⟩
            | true =>
              generalize hK5 : inB ad (-1000000) 1000000 = e5 at *
              cases e5 with
              | false =>
                rw [HE2.out rfl (by simp)]
                clear HE1 HE2 HE3 HE4 HE5 HPL
                go_enter Tryz.func33, Tryz.ntmps33
                go_wp2_with fail
                refine (hN _).mono ?_
                rintro e w1 ⟨rfl, hb1⟩
                have HB1 := Hid.mk (bl2 HB.out hb1)
                have HG1 := Hid.mk (HG.out.kept hb1)
                obtain ⟨k0, k1, k2, k3, k4, k5, k6, k7, k8⟩ := HG1.out
                simp only at k0 k1 k2 k3 k4 k5 k6 k7 k8
                clear hb1
                go_wp2_with fail
                refine (hI0 _).mono ?_
                rintro e v0 ⟨rfl, hv0⟩
                obtain rfl := hv0.symm
                go_wp2_with fail
                refine (hI1 _).mono ?_
                rintro e v1 ⟨rfl, hv1⟩
                obtain rfl := hv1.symm
                go_wp2_with fail
                refine (hI3 _).mono ?_
                rintro e v3 ⟨rfl, hv3⟩
                obtain rfl := hv3.symm
                go_wp2_with fail
                refine (hI4 _).mono ?_
                rintro e v4 ⟨rfl, hv4⟩
                obtain rfl := hv4.symm
                go_wp2_with fail
                refine (hI5 _).mono ?_
                rintro e v5 ⟨rfl, hv5⟩
                obtain rfl := hv5.symm
                go_wp2_with fail
                go_ret
                exact ⟨rfl, HB1.out⟩
              | true =>
                generalize hK6 : inB ky (-1) 255 = e6 at *
                cases e6 with
                | false =>
                  rw [HE2.out rfl (by simp)]
                  clear HE1 HE2 HE3 HE4 HE5 HPL
                  go_enter Tryz.func33, Tryz.ntmps33
                  go_wp2_with fail
                  refine (hN _).mono ?_
                  rintro e w1 ⟨rfl, hb1⟩
                  have HB1 := Hid.mk (bl2 HB.out hb1)
                  have HG1 := Hid.mk (HG.out.kept hb1)
                  obtain ⟨k0, k1, k2, k3, k4, k5, k6, k7, k8⟩ := HG1.out
                  simp only at k0 k1 k2 k3 k4 k5 k6 k7 k8
                  clear hb1
                  go_wp2_with fail
                  refine (hI0 _).mono ?_
                  rintro e v0 ⟨rfl, hv0⟩
                  obtain rfl := hv0.symm
                  go_wp2_with fail
                  refine (hI1 _).mono ?_
                  rintro e v1 ⟨rfl, hv1⟩
                  obtain rfl := hv1.symm
                  go_wp2_with fail
                  refine (hI3 _).mono ?_
                  rintro e v3 ⟨rfl, hv3⟩
                  obtain rfl := hv3.symm
                  go_wp2_with fail
                  refine (hI4 _).mono ?_
                  rintro e v4 ⟨rfl, hv4⟩
                  obtain rfl := hv4.symm
                  go_wp2_with fail
                  refine (hI5 _).mono ?_
                  rintro e v5 ⟨rfl, hv5⟩
                  obtain rfl := hv5.symm
                  go_wp2_with fail
                  refine (hI6 _).mono ?_
                  rintro e v6 ⟨rfl, hv6⟩
                  obtain rfl := hv6.symm
                  go_wp2_with fail
                  go_ret
                  exact ⟨rfl, HB1.out⟩
                | true =>
                  obtain ⟨s0, s1⟩ := inB_iff.1 hK0
                  obtain ⟨z0, z1⟩ := inB_iff.1 hK1
                  obtain ⟨n, rfl⟩ : ∃ n : Nat, size = n := ⟨size.toNat, by omega⟩
                  obtain ⟨sz, rfl⟩ : ∃ n : Nat, sz0 = n := ⟨sz0.toNat, by omega⟩
                  have hIs := fun W => inR_any st0 0 (8 * (n : Int) - 1) W
                  have hall : (true && (true && (!false && (true && (true && (true && true)))))) = true := rfl
                  clear HE1 HE2 hK0 hK1 hK3 hK4 hK5 hK6
                  by_cases hst : 0 ≤ st0 ∧ st0 ≤ 8 * (n : Int) - 1
                  · rw [inB_yes hst] at hIs
                    obtain ⟨st, rfl⟩ : ∃ m : Nat, st0 = m := ⟨st0.toNat, by omega⟩
                    obtain ⟨t0, t1⟩ := hst
                    have HPLs := Hid.mk (fun W => HPL.out st sz W rfl rfl (by omega) (by omega) (by omega))
                    have hall2 : (inB (n : Int) 0 64 && (true && (!false && (true && (true && (true && true)))))) = true := by rw [inB_yes (by omega)]; rfl
                    have HE4' := Hid.mk (fun k hk h3 => HE4.out n st sz rfl hall2 rfl rfl k hk h3)
                    have HE5' := Hid.mk (fun h3 => HE5.out n st sz rfl hall2 rfl rfl (by omega) h3)
                    clear HE3 HE4 HE5 HPL hall hall2
                    go_enter Tryz.func33, Tryz.ntmps33
                    go_wp2_with fail
                    refine (hN _).mono ?_
                    rintro e w1 ⟨rfl, hb1⟩
                    have HB1 := Hid.mk (bl2 HB.out hb1)
                    have HG1 := Hid.mk (HG.out.kept hb1)
                    obtain ⟨k0, k1, k2, k3, k4, k5, k6, k7, k8⟩ := HG1.out
                    simp only at k0 k1 k2 k3 k4 k5 k6 k7 k8
                    clear hb1
                    go_wp2_with fail
                    refine (hI0 _).mono ?_
                    rintro e v0 ⟨rfl, hv0⟩
                    obtain rfl := hv0.symm
                    go_wp2_with fail
                    refine (hI1 _).mono ?_
                    rintro e v1 ⟨rfl, hv1⟩
                    obtain rfl := hv1.symm
                    go_wp2_with fail
                    refine (hI3 _).mono ?_
                    rintro e v3 ⟨rfl, hv3⟩
                    obtain rfl := hv3.symm
                    go_wp2_with fail
                    refine (hI4 _).mono ?_
                    rintro e v4 ⟨rfl, hv4⟩
                    obtain rfl := hv4.symm
                    go_wp2_with fail
                    refine (hI5 _).mono ?_
                    rintro e v5 ⟨rfl, hv5⟩
                    obtain rfl := hv5.symm
                    go_wp2_with fail
                    refine (hI6 _).mono ?_
                    rintro e v6 ⟨rfl, hv6⟩
                    obtain rfl := hv6.symm
                    go_wp2_with fail
                    refine (hIs _).mono ?_
                    rintro e v7 ⟨rfl, hv7⟩
                    obtain rfl := hv7.symm
                    go_wp2_with fail
                    refine (HPLs.out _).mono ?_
                    rintro e w2 ⟨g, rfl, hg, hown, hb2⟩
                    have HO := Hid.mk hown
                    have HB2 := Hid.mk (bl2 HB1.out hb2)
                    clear hown hb2 k0 k1 k2 k3 k4 k5 k6 k7 k8 hI0 hI1 hI3 hI4 hI5 hI6 hIs hN
                    go_wp2_with fail
                    go_loopw [67] (fun i wr => ∃ k : Nat, k ≤ sz ∧ i = .int .i64 k ∧ Hid (∀ j, j < k → plN bk st sz j < 8 * n) ∧ wr = w2) (fun i _ => sz - (intOf i).toNat)
                    case atStart => exact ⟨0, Nat.zero_le _, rfl, Hid.mk (fun j hj => absurd hj (Nat.not_lt_zero _)), rfl⟩
                    case round =>
                      obtain ⟨k, hk, rfl, HJ, rfl⟩ := hrel
                      by_cases hlt : k < sz
                      · have hlt' : (k : Int) < (sz : Int) := by omega
                        have hc := cell_pls HO.out hlt
                        have HE4k := Hid.mk (fun h3 => HE4'.out k hlt h3)
                        generalize hp : plN bk st sz k = p at *
                        have HP := Hid.mk hp
                        clear hp
                        by_cases hpl : p < 8 * n
                        · have hpl' : (p : Int) < 8 * (n : Int) := by omega
                          go_wp2_with fail
                          go_roundw
                          case rel => exact ⟨k + 1, by omega, by go_num, Hid.mk (fun j hj => by
                            rcases Nat.lt_or_ge j k with hh | hh
                            · exact HJ.out j hh
                            · have : j = k := by omega
                              subst this
                              rw [HP.out]; exact hpl), trivial⟩
                          case measure => simp [intOf]; omega
                        · have hpl' : 8 * (n : Int) ≤ (p : Int) := by omega
                          have hr := HE4k.out hpl
                          have HR := Hid.mk hr
                          clear hr
                          go_wp2_with fail
                          go_ret
                          exact ⟨by rw [HR.out]; rfl, HB2.out⟩
                      · have e : k = sz := by omega
                        subst e
                        have HR := Hid.mk (HE5'.out HJ.out)
                        go_wp2_with fail
                        go_ret
                        exact ⟨by rw [HR.out]; rfl, HB2.out⟩
                  · rw [inB_no hst] at hIs
                    have hr := HE3.out rfl hall hst
                    rw [hr]
                    clear hr hall HE3 HE4 HE5 HPL hst
                    go_enter Tryz.func33, Tryz.ntmps33
                    go_wp2_with fail
                    refine (hN _).mono ?_
                    rintro e w1 ⟨rfl, hb1⟩
                    have HB1 := Hid.mk (bl2 HB.out hb1)
                    have HG1 := Hid.mk (HG.out.kept hb1)
                    obtain ⟨k0, k1, k2, k3, k4, k5, k6, k7, k8⟩ := HG1.out
                    simp only at k0 k1 k2 k3 k4 k5 k6 k7 k8
                    clear hb1
                    go_wp2_with fail
                    refine (hI0 _).mono ?_
                    rintro e v0 ⟨rfl, hv0⟩
                    obtain rfl := hv0.symm
                    go_wp2_with fail
                    refine (hI1 _).mono ?_
                    rintro e v1 ⟨rfl, hv1⟩
                    obtain rfl := hv1.symm
                    go_wp2_with fail
                    refine (hI3 _).mono ?_
                    rintro e v3 ⟨rfl, hv3⟩
                    obtain rfl := hv3.symm
                    go_wp2_with fail
                    refine (hI4 _).mono ?_
                    rintro e v4 ⟨rfl, hv4⟩
                    obtain rfl := hv4.symm
                    go_wp2_with fail
                    refine (hI5 _).mono ?_
                    rintro e v5 ⟨rfl, hv5⟩
                    obtain rfl := hv5.symm
                    go_wp2_with fail
                    refine (hI6 _).mono ?_
                    rintro e v6 ⟨rfl, hv6⟩
                    obtain rfl := hv6.symm
                    go_wp2_with fail
                    refine (hIs _).mono ?_
                    rintro e v7 ⟨rfl, hv7⟩
                    obtain rfl := hv7.symm
                    go_wp2_with fail
                    go_ret
                    exact ⟨rfl, HB1.out⟩
end Bw
end Go.Proofs.YtlnkhlifkooohaaGreatDoor
