/- What the document's own MeaningOf answers. -/
import Derived.Test.YtgknolliicachaaDoorBigRmore
import Derived.Test.YtgknolliicachaaDoorBigRadd
import Derived.Test.YtgknolliicachaaDoorSgReadOk
import Derived.Deep.RegionHeld
namespace Go.Proofs.YtgknolliicachaaDoor
open Go.ChangeShapes Go.WideShapes Go.ChangeAt Go.RowKit Go.Sort
namespace Bw
open Sm Ww
theorem mean_res (tmps : Array Value) (w : World) (g : Nat) (nm : ByteArray) (num den : Int) (hp : tmps.getD 4 undef = .pointer (some ⟨g, 0, none⟩)) (h : RdAt3 w g nm num den) :
    (results Tryd.f18 tmps).run Tryd.prog w = .ok (rdV nm num den) w := by
  have hl := run_loadVar_row (P := Tryd.prog) w g 37 37 #[.string nm, .int .i64 num, .int .i64 den] (0, 0) _ h Tryd.underlying37 rfl (by rw [read_i]; rfl)
  have hp' : tmps[4]?.getD undef = .pointer (some ⟨g, 0, none⟩) := by simpa using hp
  unfold rdV
  simp [results, hp', asAddr, hl]
theorem numL_le {n d : Int} : (numL n d).natAbs ≤ n.natAbs := by
  rw [numL_abs]
  exact Nat.div_le_self _ _
theorem denL_le' {n d : Int} (hd : 0 < d) : denL n d ≤ d := by
  have h1 := denL_abs n d
  have h2 := Nat.div_le_self d.natAbs (Int.gcd n d)
  have := denL_pos (n := n) hd
  omega
theorem low_add (p q a : Int) (hq : 0 < q) : numL (numL p q * 1 + a * denL p q) (denL p q * 1) = numL (p + a * q) q ∧ denL (numL p q * 1 + a * denL p q) (denL p q * 1) = denL (p + a * q) q := by
  have hD := denL_pos (n := p) hq
  refine low_eq (by omega) hq ?_
  obtain ⟨h1, h2⟩ := @low_mul p q
  generalize numL p q = N at *
  generalize denL p q = D at *
  generalize (Int.gcd p q : Int) = G at *
  subst h1
  subst h2
  rw [Int.mul_one, Int.mul_one]
  rw [Int.add_mul, Int.add_mul]
  congr 1 <;> ac_rfl
theorem cell_tch3 {w : World} {n : Nat} {u a b c : Value} (h : w.cell? ⟨n, 0, none⟩ = some u) : (((w.setCell ⟨n + 1, 0, none⟩ a).setCell ⟨n + 1, 1, none⟩ b).setCell ⟨n + 1, 2, none⟩ c).cell? ⟨n, 0, none⟩ = some u := by
  rw [World.cell?_setCell_far _ _ _ _ (by simp), World.cell?_setCell_far _ _ _ _ (by simp), World.cell?_setCell_far _ _ _ _ (by simp)]
  exact h
set_option maxHeartbeats 16000000 in
set_option maxRecDepth 100000 in
theorem meaning_any (s : Sig) (st sz n : Nat) (r : Int) (w : World) (hR : Rt s st sz n) (h1 : -1099511627776 ≤ r) (h2 : r ≤ 1099511627776) :
    Calls Tryd.prog 18 #[sgV s, .int .i64 r] w fun e w' => e = .returned (rdV s.nm (numL (meanN s r) s.di) (denL (meanN s r) s.di)) ∧ Below w.heap.size w w' := by
  have HB := Hid.mk (rW0_B w s)
  have HZ := Hid.mk (rW0_r w s)
  have HG := Hid.mk (rW0_s w s)
  obtain ⟨⟨b1, b2⟩, b3, b4⟩ := mean_bound hR h1 h2
  have hdi1 := hR.di1
  have hdi2 := hR.di2
  have had1 := hR.ad1
  have had2 := hR.ad2
  clear hR
  unfold meanN
  obtain ⟨nm, sta, sza, bk, sg, mu, di, ad, ky⟩ := s
  simp only at b1 b2 b3 b4 hdi1 hdi2 had1 had2
  obtain ⟨M, hM⟩ : ∃ M, M = r * mu := ⟨_, rfl⟩
  have hM' : IntKind.i64.wrap (r * mu) = M := by rw [IntKind.wrap_i64, ← hM]; omega
  rw [← hM] at b1 b2
  unfold rW0 sgC rdC at HB HZ HG
  unfold sgV
  simp only at HB HZ HG ⊢
  rw [← hM]
  have hq : 0 < di := by omega
  have hnl := @numL_le M di
  have hdl := denL_le' (n := M) hq
  have hdp := denL_pos (n := M) hq
  have hla := low_add M di ad hq
  have hmb := mul_bound (a := ad) (b := denL M di) (A := 1000000) (B := 1000000) (by omega) (by omega) (by omega) (by omega)
  have hnl2 := @numL_le (M + ad * di) di
  have hdl2 := denL_le' (n := M + ad * di) hq
  have hdp2 := denL_pos (n := M + ad * di) hq
  have HLA1 := Hid.mk hla.1
  have HLA2 := Hid.mk hla.2
  have HF := Hid.mk (fun W cs g h1 h2 => setFrac64_z g cs M di W h1 h2 hq (by omega) (by omega) (by omega))
  have HI := Hid.mk (fun W cs g h1 h2 => rset_z g cs ad W h1 h2 (by omega) (by omega))
  have HBD : Hid (BdAdd (numL M di) (denL M di) ad 1) := Hid.mk ⟨by omega, by omega, hdp, by omega, by omega, by omega, by omega, by omega, by omega, by omega, by omega, by omega, by omega, by omega, by omega⟩
  have HNB := Hid.mk (show (-4611686018427387903 ≤ numL (M + ad * di) di ∧ numL (M + ad * di) di ≤ 4611686018427387903) ∧ 0 < denL (M + ad * di) di ∧ denL (M + ad * di) di ≤ 4611686018427387903 by omega)
  clear hla hmb hnl hdl hdp hnl2 hdl2 hdp2 h1 h2 hdi1 hdi2 had1 had2 b1 b2 b3 b4 hM hq
  generalize numL (M + ad * di) di = N2 at *
  generalize denL (M + ad * di) di = D2 at *
  generalize numL M di = N1 at *
  generalize denL M di = D1 at *
  go_enter Tryd.func18, Tryd.ntmps18
  obtain ⟨w1, hw1⟩ : ∃ w1, w1 = (w.alloc (.cells #[.string nm, .int .i64 sta, .int .i64 sza, .bool bk, .bool sg, .int .i64 mu, .int .i64 di, .int .i64 ad, .int .i64 ky] 23)).alloc (.cells #[.string ⟨#[]⟩, .int .i64 0, .int .i64 0] 37) := ⟨_, rfl⟩
  rw [← hw1] at HB HZ HG
  have HG0 := Hid.mk HG.out
  have HS1 := Hid.mk (show w1.heap.size = w.heap.size + 2 by rw [hw1]; simp)
  obtain ⟨c0, c1, c2, c3, c4, c5, c6, c7, c8⟩ := HG.out.kept (rzB w1)
  simp only at c0 c1 c2 c3 c4 c5 c6 c7 c8
  go_wp2_with (rw [← hw1]; clear hw1)
  with_reducible refine (HF.out _ rzC w1.heap.size (rz_new w1) rz_rat).mono ?_
  rintro e w2 ⟨rfl, hR2, ht2⟩
  have hB2 := Tch.below (rzB w1) ht2 (by simp) (Nat.le_refl _)
  have HR2 := Hid.mk hR2
  have HB2 := Hid.mk hB2
  have HG2 := Hid.mk (HG.out.kept hB2)
  clear c0 c1 c2 c3 c4 c5 c6 c7 c8 hR2 ht2 hB2 HF HG
  obtain ⟨c0, c1, c2, c3, c4, c5, c6, c7, c8⟩ := HG2.out.kept (rzB w2)
  simp only at c0 c1 c2 c3 c4 c5 c6 c7 c8
  go_wp2_with fail
  with_reducible refine (HI.out _ rzC w2.heap.size (rz_new w2) rz_rat).mono ?_
  rintro e w3 ⟨rfl, hR3, ht3⟩
  have hB3 := Tch.below (rzB w2) ht3 (by simp) (Nat.le_refl _)
  obtain ⟨cs, hcb, hcv⟩ := (HR2.out.kept hB3).var
  have hA := radd_z w1.heap.size w1.heap.size w2.heap.size cs N1 D1 ad 1 w3 hcb hcv (HR2.out.kept hB3) hR3 HBD.out
  rw [HLA1.out, HLA2.out] at hA
  have HA := Hid.mk hA
  have HB3 := Hid.mk (bl2 HB2.out hB3)
  clear c0 c1 c2 c3 c4 c5 c6 c7 c8 hR3 ht3 hB3 HI hA hcb hcv HG2 HR2 HBD HLA1 HLA2 HB2
  go_wp2_with fail
  with_reducible refine HA.out.mono ?_
  rintro e w4 ⟨rfl, hR4, ht4⟩
  have hB4 := Tch.below HB3.out ht4 (by simp) (Nat.le_refl _)
  have HR4 := Hid.mk hR4
  have HZ4 := Hid.mk (HZ.out.kept hB4)
  have HBB := Hid.mk (bl2 HB.out hB4)
  have c0 := (HG0.out.kept hB4).c0
  simp only at c0
  have HN := Hid.mk (rnum_z w1.heap.size w4.drew)
  have HI1 := Hid.mk (int64_z w1.heap.size 0 N2 w4.drew (hR4.kept (dwS w4)).num HNB.out.1.1 HNB.out.1.2)
  have HDN := Hid.mk (rdenom_z w1.heap.size N2 D2 w4.drew (hR4.kept (dwS w4)) HNB.out.2.1 HNB.out.2.2)
  have HI2 := Hid.mk (fun W g h => int64_z g 0 D2 W h (by have := HNB.out.2.1; omega) HNB.out.2.2)
  clear hB4 hR4 ht4 HA HB3 HG0 HZ
  go_wp2_with fail
  refine wp_region_held_drew (S := fun W => W.cell? ⟨w.heap.size, 0, none⟩ = some (.string nm)) (by kernel_rfl) c0 (fun hHeld => ?_)
  refine wpAnyH_take (i := 0) (v := .pointer (some ⟨w.heap.size, 0, none⟩)) rfl (by kernel_rfl) (by kernel_rfl) (by kernel_rfl) (fun _ _ _ h => h) (Or.inl ⟨by rfl, fun _ _ => by rfl⟩) hHeld ?_
  simp only [List.getElem_toArray, List.getElem_cons_zero, Act.put, List.setIfInBounds_toArray, List.set_cons_zero, List.set_cons_succ]
  refine wpAnyH_take (i := 1) (v := .string nm) rfl (by kernel_rfl) (by kernel_rfl) (by kernel_rfl) (fun _ _ _ h => h) (Or.inl ⟨by rfl, fun W hW => by clear hHeld; go_simp⟩) hHeld ?_
  simp only [List.getElem_toArray, List.getElem_cons_zero, List.getElem_cons_succ, Act.put, List.setIfInBounds_toArray, List.set_cons_zero, List.set_cons_succ]
  refine wpAnyH_take (i := 2) (v := .pointer (some ⟨w1.heap.size, 0, none⟩)) rfl (by kernel_rfl) (by kernel_rfl) (by kernel_rfl) (fun _ _ _ h => h) (Or.inl ⟨by rfl, fun _ _ => by rfl⟩) hHeld ?_
  simp only [List.getElem_toArray, List.getElem_cons_zero, List.getElem_cons_succ, Act.put, List.setIfInBounds_toArray, List.set_cons_zero, List.set_cons_succ]
  refine wpAnyH_take (i := 5) (v := .pointer (some ⟨w1.heap.size, 0, none⟩)) rfl (by kernel_rfl) (by kernel_rfl) (by kernel_rfl) (fun _ _ _ h => h) (Or.inl ⟨by rfl, fun _ _ => by rfl⟩) hHeld ?_
  simp only [List.getElem_toArray, List.getElem_cons_zero, List.getElem_cons_succ, Act.put, List.setIfInBounds_toArray, List.set_cons_zero, List.set_cons_succ]
  refine wpAnyH_ready (rs := [3]) (by kernel_rfl) (by simp) ?_
  refine AllReadyH.cons rfl (fun K hK => ?_) AllReadyH.nil
  go_simp
  go_wp2_with fail
  with_reducible refine HN.out.mono ?_
  rintro e W5 ⟨rfl, hw5⟩
  obtain rfl := hw5.symm
  go_wp2_with fail
  refine hK.out _ _ (hHeld) (fun h1 => ?_)
  clear hK K hHeld
  refine wpAnyH_ready (rs := [4]) (by kernel_rfl) (by simp) ?_
  refine AllReadyH.cons rfl (fun K hK => ?_) AllReadyH.nil
  go_simp
  go_wp2_with fail
  with_reducible refine HI1.out.mono ?_
  rintro e W5 ⟨rfl, hw5⟩
  obtain rfl := hw5.symm
  go_wp2_with fail
  refine hK.out _ _ (h1) (fun h2 => ?_)
  clear hK K h1
  refine wpAnyH_ready (rs := [6]) (by kernel_rfl) (by simp) ?_
  refine AllReadyH.cons rfl (fun K hK => ?_) AllReadyH.nil
  go_simp
  go_wp2_with fail
  with_reducible refine HDN.out.mono ?_
  rintro e w5 ⟨rfl, hz5, hb5⟩
  have HZ5 := Hid.mk (show ZAt w5 w4.heap.size 0 D2 from hz5)
  have HB5 := Hid.mk (bl2 (dwS w4) hb5)
  have hc5 := cell_kept (bl2 (dwS w4) hb5) c0
  clear hz5 hb5
  go_wp2_with fail
  refine hK.out _ _ (hc5) (fun h3 => ?_)
  clear hK K h2
  refine wpAnyH_ready (rs := [7]) (by kernel_rfl) (by simp) ?_
  refine AllReadyH.cons rfl (fun K hK => ?_) AllReadyH.nil
  go_simp
  go_wp2_with fail
  with_reducible refine (HI2.out _ w4.heap.size HZ5.out).mono ?_
  rintro e W6 ⟨rfl, hw6⟩
  obtain rfl := hw6.symm
  go_wp2_with fail
  refine hK.out _ _ (hc5) (fun h4 => ?_)
  clear hK K h3
  refine wpAnyH_take (i := 8) (v := .agg #[.string nm, .int .i64 N2, .int .i64 D2]) rfl (by kernel_rfl) (by kernel_rfl) (by kernel_rfl) (fun _ _ _ h => h) (Or.inl ⟨by rfl, fun W hW => by clear hW h4; go_simp⟩) h4 ?_
  simp only [List.getElem_toArray, List.getElem_cons_zero, List.getElem_cons_succ, Act.put, List.setIfInBounds_toArray, List.set_cons_zero, List.set_cons_succ]
  have HZ6 := Hid.mk (HZ4.out.kept HB5.out)
  obtain ⟨⟨d0, d1, d2⟩, f0, f1, f2⟩ := HZ6.out.cells
  obtain ⟨⟨e1, g1⟩, ⟨e2, g2⟩, hF⟩ := HZ6.out.store nm N2 D2
  have HF := Hid.mk hF
  clear hF
  refine wpAnyH_ready (rs := [9]) (by kernel_rfl) (by simp) ?_
  refine AllReadyH.cons rfl (fun K hK => ?_) AllReadyH.nil
  go_simp
  refine hK.out _ _ (cell_tch3 hc5) (fun h5 => ?_)
  clear hK K h4
  refine wpAnyH_done (by kernel_rfl) ?_ _
  go_wp2_with fail
  refine bodyPost_ret (mean_res _ _ (w.heap.size + 1) _ _ _ rfl HF.out) rfl ?_
  exact ⟨rfl, setB3 (bl2 HBB.out HB5.out) (Nat.le_succ _) _ _ _⟩
end Bw
end Go.Proofs.YtgknolliicachaaDoor
