/- The laws' own partsOf: all parts of a right message. -/
import Derived.Test.YtgjnfmbmndnihaaPtLawA
namespace Go.Proofs.Ytgjnfmbmndnihaa
open Go.ChangeShapes Go.WideShapes Go.ChangeAt Go.RowKit
namespace Bw
open Bm
set_option linter.unusedVariables false
theorem owns_madeP (w : World) (l : List UInt8) (base : Nat) (hb : base ≤ w.heap.size) (h : l.length ≤ 300) : (w.alloc (.cells (cellsOf l).toArray 5)).ownsRow base 5 1 (.slice (some ⟨w.heap.size, 0, none⟩) l.length l.length) l.length (cellsOf l) :=
  ⟨by rw [cellsOf_length, Nat.mul_one], .inr ⟨w.heap.size, l.length, (cellsOf l).toArray, rfl, hb, heap_alloc_new w _, Nat.le_refl _, by unfold maxLen; omega, by simp [cellsOf], by rw [Nat.mul_one]; exact List.take_of_length_le (by simp [cellsOf])⟩⟩
theorem one_cellP (l : List UInt8) : ∀ u ∈ cellsOf l, u.oneCell' = true := by
  intro u hu
  unfold cellsOf at hu
  obtain ⟨c, -, rfl⟩ := List.mem_map.1 hu
  rfl
theorem own_fresh {w3 : World} {base : Nat} {n : Nat} {v3 : Value} {xs : List Value} (hown3 : w3.ownsRow base 5 1 v3 n xs) (hn : 0 < n) : ∃ g c, v3 = .slice (some ⟨g, 0, none⟩) n c ∧ base ≤ g := by
  rcases hown3.2 with ⟨h1, h2⟩ | ⟨g, c, cur, h1, h2, _⟩
  · omega
  · exact ⟨g, c, h1, h2⟩
set_option maxHeartbeats 4000000 in
set_option maxRecDepth 100000 in
theorem partsOf_one (x : Addr) (len cap : Nat) (l : List UInt8) (w : World) (hD : IsBytes w (some x) len cap l) (h1 : 1 ≤ len) (h7 : len ≤ 7) :
    Calls Try.prog 14 #[.slice (some x) len cap] w fun e w' => ∃ g c n, e = .returned (.slice (some ⟨g, 0, none⟩) n c) ∧ n = 1 + nxN len ∧ w.heap.size ≤ g ∧ IsPts w' (some ⟨g, 0, none⟩) n c (partsL l) ∧ Below w.heap.size w w' := by
  have hll : l.length = len := hD.1
  obtain ⟨i0, hi, hz0, hz1, hz2⟩ := info_parts info_u8
  have hcs : (cellsOf [UInt8.ofNat len]).toArray = #[.int .u8 (len : Int)] := by
    unfold cellsOf
    simp only [List.map]
    rw [UInt8.toNat_ofNat_of_lt' (show len < 256 by omega)]
  have hO := owns_madeP w [UInt8.ofNat len] w.heap.size (Nat.le_refl _) (by simp)
  rw [hcs] at hO
  have HO := Hid.mk hO
  have HB := Hid.mk (awG w (.cells #[.int .u8 (len : Int)] 5))
  have HCC := Hid.mk (bytes_cells (isBytes_below hD HB.out))
  have HCL : Hid ((cellsOf l).length = len * 1) := Hid.mk (by rw [cellsOf_length, hD.1, Nat.mul_one])
  have HAP : Hid (cellsOf [UInt8.ofNat len] ++ cellsOf l = cellsOf (fpL l)) := Hid.mk (by
    rw [← cellsOf_append]
    congr 1
    unfold fpL fpH inF
    rw [hll, if_pos h7, if_pos h7, ← hll, List.take_length])
  have HFL : Hid ((fpL l).length = 1 + len) := Hid.mk (by
    unfold fpL fpH inF
    rw [hll, if_pos h7, if_pos h7, ← hll, List.take_length]
    simp
    omega)
  have HPL : Hid (partsL l = [fpL l]) := Hid.mk (by
    unfold partsL
    rw [hll, show nxN len = 0 by unfold nxN; rw [if_pos h7]]
    rfl)
  have HNX : Hid (nxN len = 0) := Hid.mk (by unfold nxN; rw [if_pos h7])
  have h7' : (len : Int) ≤ 7 := by omega
  have hw8 : (len : Int) % 256 = (len : Int) := by omega
  clear hO hD hcs hll
  generalize fpL l = FL at *
  generalize partsL l = PL at *
  go_enter Try.func14, Try.ntmps14
  go_wp2_with (at_builtin; refine wpList_append_own _ rfl (.tmp 12) (.tmp 13) 22 rfl w.heap.size 5 i0 (.int .u8 0) 1 1 Try.underlying22 hi hz0 hz1 hz2 rfl (by decide) _ _ _ rfl HO.out x len cap (cellsOf l) rfl HCL.out HCC.out (one_cellP _) (by unfold maxLen; simp; omega) (by simp; omega) HB.out.size ?_; intro v3 w3 hown3 hgrow3 hnil3; rw [HAP.out] at hown3; (obtain ⟨g3, c3, rfl, hg3⟩ := own_fresh hown3 (by simp; omega)); clear hnil3)
  rw [show [UInt8.ofNat len].length + len = 1 + len from rfl, ← HFL.out] at hown3
  rw [← HFL.out]
  have hB3 := Below.grown HB.out hgrow3 HB.out.size (fun q hq => (HO.out.lt q hq).1)
  have hO4 := OwnPts.one (w := w3) (base := w.heap.size) (v := ⟨⟨g3, 0, none⟩, c3, FL⟩) hB3.size (isBytes_ownG hown3) (by rw [HFL.out]; omega) hg3
  unfold PtV.cell at hO4
  simp only at hO4
  have hB4 := bl2 hB3 (awG w3 (.cells #[.slice (some ⟨g3, 0, none⟩) FL.length c3] 22))
  obtain ⟨gg, cg, hv, hgg, hpts⟩ := hO4.pts (by simp)
  cases hv
  go_ret
  refine ⟨w3.heap.size, 1, 1, rfl, by rw [HNX.out], hB3.size, ?_, hB4⟩
  rw [HPL.out]
  exact hpts
set_option maxHeartbeats 8000000 in
set_option maxRecDepth 100000 in
theorem partsOf_far (x : Addr) (len cap : Nat) (l : List UInt8) (w : World) (hD : IsBytes w (some x) len cap l) (h7 : 7 < len) (h3 : len ≤ 300) :
    Calls Try.prog 14 #[.slice (some x) len cap] w fun e w' => ∃ g c n, e = .returned (.slice (some ⟨g, 0, none⟩) n c) ∧ n = 1 + nxN len ∧ w.heap.size ≤ g ∧ IsPts w' (some ⟨g, 0, none⟩) n c (partsL l) ∧ Below w.heap.size w w' ∧ PtsF w' ⟨g, 0, none⟩ n (partsL l) w.heap.size := by
  have hll : l.length = len := hD.1
  have hcap : len ≤ cap := hD.2.1
  obtain ⟨i0, hi, hz0, hz1, hz2⟩ := info_parts info_u8
  obtain ⟨j0, hji, hy0, hy1, hy2⟩ := info_parts info_bs
  obtain ⟨q, hq⟩ : ∃ q, q = 16 + len / 256 := ⟨_, rfl⟩
  obtain ⟨r, hr⟩ : ∃ r, r = len % 256 := ⟨_, rfl⟩
  have hcs : (cellsOf [UInt8.ofNat q, UInt8.ofNat r]).toArray = #[.int .u8 (q : Int), .int .u8 (r : Int)] := by
    unfold cellsOf
    simp only [List.map]
    rw [UInt8.toNat_ofNat_of_lt' (show q < 256 by omega), UInt8.toNat_ofNat_of_lt' (show r < 256 by omega)]
  have hO := owns_madeP w [UInt8.ofNat q, UInt8.ofNat r] w.heap.size (Nat.le_refl _) (by simp)
  rw [hcs] at hO
  have HO := Hid.mk hO
  have HB := Hid.mk (awG w (.cells #[.int .u8 (q : Int), .int .u8 (r : Int)] 5))
  have h06 := isBytes_cut hD 0 6 (by omega) (by omega)
  rw [add0P, List.drop_zero] at h06
  have HCC := Hid.mk (bytes_cells (isBytes_below h06 HB.out))
  have HCL : Hid ((cellsOf (l.take 6)).length = 6 * 1) := Hid.mk (by rw [cellsOf_length, List.length_take]; omega)
  have hfp : fpL l = [UInt8.ofNat q, UInt8.ofNat r] ++ l.take 6 := by
    unfold fpL fpH inF
    rw [hll, if_neg (by omega), if_neg (by omega), hq, hr]
  have HAP : Hid (cellsOf [UInt8.ofNat q, UInt8.ofNat r] ++ cellsOf (l.take 6) = cellsOf (fpL l)) := Hid.mk (by rw [← cellsOf_append, hfp])
  have HFL : Hid ((fpL l).length = 2 + 6) := Hid.mk (by rw [hfp, List.length_append, List.length_take]; simp; omega)
  obtain ⟨N, hN⟩ : ∃ N, N = nxN len := ⟨_, rfl⟩
  have hN42 : N ≤ 42 := by rw [hN]; exact nx_le len h3
  have HPL : Hid (partsL l = fpL l :: (List.range N).map fun j => npL l (6 + 7 * j)) := Hid.mk (by unfold partsL; rw [hll, hN])
  have HLT : Hid (∀ j, j ≤ N → (6 + 7 * j < len ↔ j < N)) := Hid.mk (fun j hj => by
    have h := at_lt (n := len) (j := j) (by rw [← hN]; exact hj)
    rw [show inF len = 6 by unfold inF; rw [if_neg (by omega)], ← hN] at h
    exact h)
  have HD := Hid.mk hD
  have h7' : ¬ ((len : Int) ≤ 7) := by omega
  have hlen3 : (len : Int) ≤ 300 := by omega
  have hdv0 : (len : Int).tdiv 256 = ((len / 256 : Nat) : Int) := by rw [Int.tdiv_eq_ediv_of_nonneg (by omega)]; omega
  obtain ⟨q0, hq0⟩ : ∃ q0, q0 = len / 256 := ⟨_, rfl⟩
  rw [← hq0] at hdv0
  have hdv : IntKind.i64.wrap ((len : Int).tdiv 256) = (q0 : Int) := by rw [hdv0, IntKind.wrap_i64]; omega
  have hq16 : (16 : Int) + (q0 : Int) = (q : Int) := by omega
  have hq0b : (q0 : Int) ≤ 1 := by omega
  have hqb : (q : Int) ≤ 17 := by omega
  have hrm0 : (len : Int).tmod 256 = (r : Int) := by rw [Int.tmod_eq_emod_of_nonneg (by omega)]; omega
  have hrm : IntKind.i64.wrap ((len : Int).tmod 256) = (r : Int) := by rw [hrm0, IntKind.wrap_i64]; omega
  have hrb : (r : Int) ≤ 255 := by omega
  have h6c : (6 : Int) ≤ (cap : Int) := by omega
  have h6c' : 6 ≤ cap := by omega
  rw [← hN]
  clear hO hD hcs hll hq hr hq0 hfp h06 hN
  generalize hFLe : fpL l = FL at *
  clear hFLe
  generalize hPLe : partsL l = PL at *
  clear hPLe
  go_enter Try.func14, Try.ntmps14
  go_wp2_with (at_builtin; refine wpList_append_own _ rfl (.tmp 23) (.tmp 25) 22 rfl w.heap.size 5 i0 (.int .u8 0) 1 1 Try.underlying22 hi hz0 hz1 hz2 rfl (by decide) _ _ _ rfl HO.out x 6 cap (cellsOf (l.take 6)) rfl HCL.out HCC.out (one_cellP _) (by unfold maxLen; simp) (by simp) HB.out.size ?_; intro v3 w3 hown3 hgrow3 hnil3; rw [HAP.out] at hown3; (obtain ⟨g3, c3, rfl, hg3⟩ := own_fresh hown3 (by simp)); clear hnil3)
  rw [show [UInt8.ofNat q, UInt8.ofNat r].length + 6 = 2 + 6 from rfl, ← HFL.out] at hown3
  have hB3 := Below.grown HB.out hgrow3 HB.out.size (fun q hq => (HO.out.lt q hq).1)
  have hO4 := OwnPts.one (w := w3) (base := w.heap.size) (v := ⟨⟨g3, 0, none⟩, c3, FL⟩) hB3.size (isBytes_ownG hown3) (by rw [HFL.out]; omega) hg3
  unfold PtV.cell at hO4
  simp only at hO4
  have hB4 := bl2 hB3 (awG w3 (.cells #[.slice (some ⟨g3, 0, none⟩) FL.length c3] 22))
  rw [HFL.out] at hO4 hB4
  have HO4 := Hid.mk hO4
  have HB4 := Hid.mk hB4
  clear hown3 hgrow3 hB3 hO4 hB4 HO HB HCC HCL HAP hdv hdv0 hrm hrm0 hg3
  have HT : Hid (∀ n c, PtV.cell ⟨⟨g3, 0, none⟩, c, n⟩ = .slice (some ⟨g3, 0, none⟩) n.length c) := Hid.mk (fun _ _ => rfl)
  generalize w3.alloc (.cells #[.slice (some ⟨g3, 0, none⟩) (2 + 6) c3] 22) = W4 at *
  go_loopw [4, 5] (fun r i wr => ∃ (j : Nat) (P : List PtV), j ≤ N ∧ i = .int .i64 ((j + 1 : Nat) : Int) ∧ Hid (P.map (·.l) = FL :: (List.range j).map fun j => npL l (6 + 7 * j)) ∧ Hid (OwnPts wr w.heap.size r P) ∧ Hid (Below w.heap.size w wr)) (fun _ i _ => N + 1 - (intOf i).toNat)
  case atStart => exact ⟨0, [⟨⟨g3, 0, none⟩, c3, FL⟩], Nat.zero_le _, rfl, Hid.mk rfl, HO4, HB4⟩
  case round =>
    obtain ⟨j, P, hj, rfl, HM, HO, HB⟩ := hrel
    obtain ⟨J1, hJ1⟩ : ∃ J1, J1 = j + 1 := ⟨_, rfl⟩
    rw [← hJ1]
    have hsub : (J1 : Int) - 1 = (j : Int) := by omega
    obtain ⟨AT, hAT⟩ : ∃ AT, AT = 6 + 7 * j := ⟨_, rfl⟩
    have hat : (6 : Int) + 7 * (j : Int) = (AT : Int) := by omega
    have hjb : (j : Int) ≤ 42 := by omega
    have hJb : (J1 : Int) ≤ 43 := by omega
    have hATb : (AT : Int) ≤ 300 := by omega
    by_cases hlt : j < N
    · have hk := (HLT.out j hj).2 hlt
      rw [← hAT] at hk
      have hkl : (AT : Int) < (len : Int) := by omega
      obtain ⟨E1, hE1⟩ : ∃ E1, E1 = 6 + 7 * J1 := ⟨_, rfl⟩
      have he1 : (6 : Int) + 7 * (J1 : Int) = (E1 : Int) := by omega
      have hE1b : (E1 : Int) ≤ 310 := by omega
      rcases Nat.lt_or_ge len E1 with hc | hc
      · have hc' : (len : Int) < (E1 : Int) := by omega
        have hc2 : ¬ ((E1 : Int) ≤ (len : Int)) := by omega
        have hk1 : (AT : Int) ≤ (len : Int) := by omega
        have hk2 : (len : Int) ≤ (cap : Int) := by omega
        have hk3 : AT ≤ len := by omega
        have hk4 : len ≤ cap := by omega
        have hk6 : AT < cap := by omega
        have hk7 : (AT : Int) < (cap : Int) := by omega
        have hk8 : AT < len := by omega
        have hk9 : (len : Int) ≤ 300 := by omega
        have hk10 : ¬ cap = AT := by omega
        obtain ⟨N1, hN1⟩ : ∃ N1, N1 = (j + 1) % 16 := ⟨_, rfl⟩
        have hr0 : (J1 : Int).tmod 16 = (N1 : Int) := by rw [Int.tmod_eq_emod_of_nonneg (by omega)]; omega
        have hrw : IntKind.i64.wrap ((J1 : Int).tmod 16) = (N1 : Int) := by rw [hr0, IntKind.wrap_i64]; omega
        have hN1b : (N1 : Int) ≤ 15 := by omega
        obtain ⟨M, hM⟩ : ∃ M, M = 32 + N1 := ⟨_, rfl⟩
        have hmm : (32 : Int) + (N1 : Int) = (M : Int) := by omega
        have hMb : (M : Int) ≤ 47 := by omega
        have hnp : npL l AT = [UInt8.ofNat M] ++ (l.drop AT).take (len - AT) := by
          unfold npL
          rw [hAT, numN_at, hM, hN1, ← hAT]
          have hll := HD.out.1
          by_cases hh : AT + 7 ≤ len
          · rw [show len - AT = 7 by omega]; rfl
          · rw [List.take_of_length_le (by rw [List.length_drop]; omega), List.take_of_length_le (by rw [List.length_drop]; omega)]; rfl
        have hcs : (cellsOf [UInt8.ofNat M]).toArray = #[.int .u8 (M : Int)] := by
          unfold cellsOf
          simp only [List.map]
          rw [UInt8.toNat_ofNat_of_lt' (show M < 256 by omega)]
        have hOB := owns_madeP wr [UInt8.ofNat M] wr.heap.size (Nat.le_refl _) (by simp)
        rw [hcs] at hOB
        have HOB := Hid.mk hOB
        have hba := awG wr (.cells #[.int .u8 (M : Int)] 5)
        have HBA := Hid.mk hba
        have hcut := isBytes_below (isBytes_cut HD.out AT len (by omega) (by omega)) (bl2 HB.out hba)
        have HCC := Hid.mk (bytes_cells hcut)
        have HCL : Hid ((cellsOf ((l.drop AT).take (len - AT))).length = (len - AT) * 1) := Hid.mk (by rw [cellsOf_length, hcut.1, Nat.mul_one])
        have HAP : Hid (cellsOf [UInt8.ofNat M] ++ cellsOf ((l.drop AT).take (len - AT)) = cellsOf (npL l AT)) := Hid.mk (by rw [← cellsOf_append, hnp])
        have HNL : Hid ((npL l AT).length = 1 + (len - AT)) := Hid.mk (by rw [hnp, List.length_append, hcut.1]; rfl)
        have HPN : Hid (P.length = 1 + j) := Hid.mk (by have := congrArg List.length HM.out; simp at this; omega)
        have HMM : Hid (∀ a c, (P ++ [(⟨a, c, npL l AT⟩ : PtV)]).map (·.l) = FL :: (List.range (j + 1)).map fun j => npL l (6 + 7 * j)) := Hid.mk (by intro a c; rw [List.map_append, HM.out, List.range_succ, List.map_append, hAT]; rfl)
        have HSN : Hid (len - AT ≤ 7 ∧ 1 ≤ len - AT) := Hid.mk ⟨by omega, by omega⟩
        have HJ1 := Hid.mk hJ1
        have HJN := Hid.mk hlt
        generalize npL l AT = NL at *
        generalize (l.drop AT).take (len - AT) = DL at *
        clear hJ1 hAT hE1 hN1 hM hnp hcs hOB hba hcut hlt hj
        go_wp2_with (at_builtin; first
          | (refine wpList_append_own _ rfl (.tmp 41) (.tmp 52) 22 rfl wr.heap.size 5 i0 (.int .u8 0) 1 1 Try.underlying22 hi hz0 hz1 hz2 rfl (by decide) _ _ _ rfl HOB.out (x.add AT) (len - AT) (cap - AT) (cellsOf DL) rfl HCL.out HCC.out (one_cellP _) (by have := HSN.out; unfold maxLen; simp; omega) (by have := HSN.out; simp; omega) HBA.out.size ?_
             intro v3 w5 hown3 hgrow3 hnil3
             rw [HAP.out, show [UInt8.ofNat M].length + (len - AT) = 1 + (len - AT) from rfl, ← HNL.out] at hown3
             obtain ⟨g5, c5, rfl, hg5⟩ := own_fresh hown3 (by rw [HNL.out]; omega)
             have HB5 := Hid.mk (Below.grown HBA.out hgrow3 HBA.out.size (fun q hq => (HOB.out.lt q hq).1))
             have HY5 := Hid.mk (isBytes_ownG hown3)
             have HG5 := Hid.mk hg5
             have HO5 := Hid.mk (HO.out.kept HB5.out)
             clear hown3 hgrow3 hnil3 hg5)
          | (refine wpList_append_two rfl (.tmp 36) (.tmp 54) 23 rfl w.heap.size 22 j0 (.slice none 0 0) 1 24 Try.underlying23 hji hy0 hy1 hy2 rfl (by decide) _ _ _ rfl (HO5.out.row.alloc _) ⟨w5.heap.size, 0, none⟩ 1 1 [.slice (some ⟨g5, 0, none⟩) NL.length c5] rfl rfl (by intro q u hq; rw [Addr.add_lit, Nat.zero_add, cell_of_row _ _ q _ _ _ (heap_alloc_new w5 _)]; simpa using hq) (by intro u hu; simp at hu; subst hu; rfl) (by decide) (by have := HPN.out; unfold maxLen; omega) (by have := HPN.out; omega) (by have := HB5.out.size; have := HB.out.size; simp; omega) ?_
             intro v6 w6 hown6 hgrow6 hblk6
             have hb6 := awG w5 (.cells #[.slice (some ⟨g5, 0, none⟩) NL.length c5] 22)
             have hO6 := (HO5.out.kept hb6).add (v := ⟨⟨g5, 0, none⟩, c5, NL⟩) (isBytes_below HY5.out hb6) (by rw [HNL.out]; omega) (by intro e; have h1 := (HO.out.lt _ e).2; have := HG5.out; simp at h1; omega) (by have := HG5.out; have := HB.out.size; simp; omega) hown6 hgrow6 hblk6
             have HO7 := Hid.mk hO6
             have HB7 := Hid.mk (Below.grown (bl2 (bl2 HB.out HB5.out) hb6) hgrow6 (bl2 (bl2 HB.out HB5.out) hb6).size (fun q hq => (HO5.out.row.lt q hq).1))
             clear hown6 hgrow6 hblk6 hb6 hO6))
        go_wp2_with fail
        go_roundw
        case rel => exact ⟨j + 1, P ++ [⟨⟨g5, 0, none⟩, c5, NL⟩], HJN.out, by rw [HJ1.out]; exact int_eq (by omega), Hid.mk (HMM.out _ _), HO7, HB7⟩
        case measure => have := HJ1.out; have := HJN.out; simp [intOf]; omega
      · have hc' : ¬ ((len : Int) < (E1 : Int)) := by omega
        have hc2 : (E1 : Int) ≤ (len : Int) := by omega
        have hk1 : (AT : Int) ≤ (E1 : Int) := by omega
        have hk2 : (E1 : Int) ≤ (cap : Int) := by omega
        have hk3 : AT ≤ E1 := by omega
        have hk4 : E1 ≤ cap := by omega
        have hk6 : AT < cap := by omega
        have hk7 : (AT : Int) < (cap : Int) := by omega
        have hk8 : AT < E1 := by omega
        have hk9 : (E1 : Int) ≤ 300 := by omega
        have hk10 : ¬ cap = AT := by omega
        obtain ⟨N1, hN1⟩ : ∃ N1, N1 = (j + 1) % 16 := ⟨_, rfl⟩
        have hr0 : (J1 : Int).tmod 16 = (N1 : Int) := by rw [Int.tmod_eq_emod_of_nonneg (by omega)]; omega
        have hrw : IntKind.i64.wrap ((J1 : Int).tmod 16) = (N1 : Int) := by rw [hr0, IntKind.wrap_i64]; omega
        have hN1b : (N1 : Int) ≤ 15 := by omega
        obtain ⟨M, hM⟩ : ∃ M, M = 32 + N1 := ⟨_, rfl⟩
        have hmm : (32 : Int) + (N1 : Int) = (M : Int) := by omega
        have hMb : (M : Int) ≤ 47 := by omega
        have hnp : npL l AT = [UInt8.ofNat M] ++ (l.drop AT).take (E1 - AT) := by
          unfold npL
          rw [hAT, numN_at, hM, hN1, ← hAT]
          have hll := HD.out.1
          by_cases hh : AT + 7 ≤ len
          · rw [show E1 - AT = 7 by omega]; rfl
          · rw [List.take_of_length_le (by rw [List.length_drop]; omega), List.take_of_length_le (by rw [List.length_drop]; omega)]; rfl
        have hcs : (cellsOf [UInt8.ofNat M]).toArray = #[.int .u8 (M : Int)] := by
          unfold cellsOf
          simp only [List.map]
          rw [UInt8.toNat_ofNat_of_lt' (show M < 256 by omega)]
        have hOB := owns_madeP wr [UInt8.ofNat M] wr.heap.size (Nat.le_refl _) (by simp)
        rw [hcs] at hOB
        have HOB := Hid.mk hOB
        have hba := awG wr (.cells #[.int .u8 (M : Int)] 5)
        have HBA := Hid.mk hba
        have hcut := isBytes_below (isBytes_cut HD.out AT E1 (by omega) (by omega)) (bl2 HB.out hba)
        have HCC := Hid.mk (bytes_cells hcut)
        have HCL : Hid ((cellsOf ((l.drop AT).take (E1 - AT))).length = (E1 - AT) * 1) := Hid.mk (by rw [cellsOf_length, hcut.1, Nat.mul_one])
        have HAP : Hid (cellsOf [UInt8.ofNat M] ++ cellsOf ((l.drop AT).take (E1 - AT)) = cellsOf (npL l AT)) := Hid.mk (by rw [← cellsOf_append, hnp])
        have HNL : Hid ((npL l AT).length = 1 + (E1 - AT)) := Hid.mk (by rw [hnp, List.length_append, hcut.1]; rfl)
        have HPN : Hid (P.length = 1 + j) := Hid.mk (by have := congrArg List.length HM.out; simp at this; omega)
        have HMM : Hid (∀ a c, (P ++ [(⟨a, c, npL l AT⟩ : PtV)]).map (·.l) = FL :: (List.range (j + 1)).map fun j => npL l (6 + 7 * j)) := Hid.mk (by intro a c; rw [List.map_append, HM.out, List.range_succ, List.map_append, hAT]; rfl)
        have HSN : Hid (E1 - AT ≤ 7 ∧ 1 ≤ E1 - AT) := Hid.mk ⟨by omega, by omega⟩
        have HJ1 := Hid.mk hJ1
        have HJN := Hid.mk hlt
        generalize npL l AT = NL at *
        generalize (l.drop AT).take (E1 - AT) = DL at *
        clear hJ1 hAT hE1 hN1 hM hnp hcs hOB hba hcut hlt hj
        go_wp2_with (at_builtin; first
          | (refine wpList_append_own _ rfl (.tmp 41) (.tmp 52) 22 rfl wr.heap.size 5 i0 (.int .u8 0) 1 1 Try.underlying22 hi hz0 hz1 hz2 rfl (by decide) _ _ _ rfl HOB.out (x.add AT) (E1 - AT) (cap - AT) (cellsOf DL) rfl HCL.out HCC.out (one_cellP _) (by have := HSN.out; unfold maxLen; simp; omega) (by have := HSN.out; simp; omega) HBA.out.size ?_
             intro v3 w5 hown3 hgrow3 hnil3
             rw [HAP.out, show [UInt8.ofNat M].length + (E1 - AT) = 1 + (E1 - AT) from rfl, ← HNL.out] at hown3
             obtain ⟨g5, c5, rfl, hg5⟩ := own_fresh hown3 (by rw [HNL.out]; omega)
             have HB5 := Hid.mk (Below.grown HBA.out hgrow3 HBA.out.size (fun q hq => (HOB.out.lt q hq).1))
             have HY5 := Hid.mk (isBytes_ownG hown3)
             have HG5 := Hid.mk hg5
             have HO5 := Hid.mk (HO.out.kept HB5.out)
             clear hown3 hgrow3 hnil3 hg5)
          | (refine wpList_append_two rfl (.tmp 36) (.tmp 54) 23 rfl w.heap.size 22 j0 (.slice none 0 0) 1 24 Try.underlying23 hji hy0 hy1 hy2 rfl (by decide) _ _ _ rfl (HO5.out.row.alloc _) ⟨w5.heap.size, 0, none⟩ 1 1 [.slice (some ⟨g5, 0, none⟩) NL.length c5] rfl rfl (by intro q u hq; rw [Addr.add_lit, Nat.zero_add, cell_of_row _ _ q _ _ _ (heap_alloc_new w5 _)]; simpa using hq) (by intro u hu; simp at hu; subst hu; rfl) (by decide) (by have := HPN.out; unfold maxLen; omega) (by have := HPN.out; omega) (by have := HB5.out.size; have := HB.out.size; simp; omega) ?_
             intro v6 w6 hown6 hgrow6 hblk6
             have hb6 := awG w5 (.cells #[.slice (some ⟨g5, 0, none⟩) NL.length c5] 22)
             have hO6 := (HO5.out.kept hb6).add (v := ⟨⟨g5, 0, none⟩, c5, NL⟩) (isBytes_below HY5.out hb6) (by rw [HNL.out]; omega) (by intro e; have h1 := (HO.out.lt _ e).2; have := HG5.out; simp at h1; omega) (by have := HG5.out; have := HB.out.size; simp; omega) hown6 hgrow6 hblk6
             have HO7 := Hid.mk hO6
             have HB7 := Hid.mk (Below.grown (bl2 (bl2 HB.out HB5.out) hb6) hgrow6 (bl2 (bl2 HB.out HB5.out) hb6).size (fun q hq => (HO5.out.row.lt q hq).1))
             clear hown6 hgrow6 hblk6 hb6 hO6))
        go_wp2_with fail
        go_roundw
        case rel => exact ⟨j + 1, P ++ [⟨⟨g5, 0, none⟩, c5, NL⟩], HJN.out, by rw [HJ1.out]; exact int_eq (by omega), Hid.mk (HMM.out _ _), HO7, HB7⟩
        case measure => have := HJ1.out; have := HJN.out; simp [intOf]; omega
    · obtain rfl : j = N := by omega
      have hk : ¬ (6 + 7 * j < len) := fun h => hlt ((HLT.out j hj).1 h)
      rw [← hAT] at hk
      have hkl : ¬ ((AT : Int) < (len : Int)) := by omega
      obtain ⟨g, cp, rfl, hg, hpts⟩ := HO.out.pts (by have := congrArg List.length HM.out; simp at this; omega)
      have hPlen : P.length = 1 + j := by have := congrArg List.length HM.out; simp at this; omega
      have hptf := HO.out.ptsF rfl hg
      rw [HM.out, ← HPL.out] at hpts hptf
      obtain ⟨PN, hPN⟩ : ∃ PN, PN = P.length := ⟨_, rfl⟩
      rw [← hPN] at hpts hptf ⊢
      have HPF := Hid.mk hptf
      have HPN : Hid (PN = 1 + j) := Hid.mk (by rw [hPN]; exact hPlen)
      have HP := Hid.mk hpts
      have HG := Hid.mk hg
      clear hpts hptf hg hPlen hPN hlt hAT hJ1 hk
      go_wp2_with fail
      go_ret
      exact ⟨g, cp, PN, rfl, HPN.out, HG.out, HP.out, HB.out, HPF.out⟩
theorem partsOf_more (x : Addr) (len cap : Nat) (l : List UInt8) (w : World) (hD : IsBytes w (some x) len cap l) (h7 : 7 < len) (h3 : len ≤ 300) :
    Calls Try.prog 14 #[.slice (some x) len cap] w fun e w' => ∃ g c n, e = .returned (.slice (some ⟨g, 0, none⟩) n c) ∧ n = 1 + nxN len ∧ w.heap.size ≤ g ∧ IsPts w' (some ⟨g, 0, none⟩) n c (partsL l) ∧ Below w.heap.size w w' := by
  refine (partsOf_far x len cap l w hD h7 h3).mono ?_
  rintro e w' ⟨g, c, n, h0, h1, h2, h3, h4, -⟩
  exact ⟨g, c, n, h0, h1, h2, h3, h4⟩
end Bw
end Go.Proofs.Ytgjnfmbmndnihaa
