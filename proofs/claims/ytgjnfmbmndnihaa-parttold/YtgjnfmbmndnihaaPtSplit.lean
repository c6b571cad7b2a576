/- What package part's Split answers. -/
import Derived.Test.YtgjnfmbmndnihaaPtRows
namespace Go.Proofs.Ytgjnfmbmndnihaa
open Go.ChangeShapes Go.WideShapes Go.ChangeAt Go.RowKit
namespace Bw
open Bm
set_option maxHeartbeats 2000000 in
theorem split_bad (a : Option Addr) (len cap : Nat) (w : World) (hl : len ≤ maxLen) (hE : szP len ≠ 0) :
    Calls Try.prog 9 #[.slice a len cap] w fun e w' => e = .returned (.tuple #[.slice none 0 0, .int .i64 (szP len)]) ∧ w' = w := by
  have hS := pcheckSize_any a len cap w hl
  have hne : (szP len != 0) = true := by simpa using hE
  clear hl hE
  generalize szP len = E at *
  go_enter Try.func9, Try.ntmps9
  go_wp2_with fail
  refine hS.mono ?_
  rintro e w1 ⟨rfl, hw1⟩
  rw [hw1]
  clear hw1
  go_wp2_with fail
  go_ret2
  exact ⟨rfl, rfl⟩
theorem at_lt {n j : Nat} (hj : j ≤ nxN n) : inF n + 7 * j < n ↔ j < nxN n := by
  unfold inF nxN at *
  split
  · rename_i h
    rw [if_pos h] at hj
    omega
  · rename_i h
    rw [if_neg h] at hj
    omega
theorem nx_pos {n j : Nat} (h : j < nxN n) : 7 < n ∧ inF n = 6 := by
  unfold nxN at h
  split at h
  · omega
  · exact ⟨by omega, by unfold inF; rw [if_neg (by omega)]⟩
theorem nx_le (n : Nat) (h : n ≤ 300) : nxN n ≤ 42 := by
  unfold nxN
  split <;> omega
theorem fpL_pos (l : List UInt8) : 0 < (fpL l).length := by
  unfold fpL fpH inF
  split <;> simp
set_option maxHeartbeats 8000000 in
set_option maxRecDepth 100000 in
theorem split_ok (x : Addr) (len cap : Nat) (l : List UInt8) (w : World) (hD : IsBytes w (some x) len cap l) (h1 : 1 ≤ len) (h3 : len ≤ 300) :
    Calls Try.prog 9 #[.slice (some x) len cap] w fun e w' => ∃ g c n, e = .returned (.tuple #[.slice (some ⟨g, 0, none⟩) n c, .int .i64 0]) ∧ n = 1 + nxN len ∧ w.heap.size ≤ g ∧ IsPts w' (some ⟨g, 0, none⟩) n c (partsL l) ∧ PtsF w' ⟨g, 0, none⟩ n (partsL l) w.heap.size ∧ Below w.heap.size w w' := by
  have hll : l.length = len := hD.1
  obtain ⟨i0, hi, hz0, hz1, hz2⟩ := info_parts info_bs
  have hS := pcheckSize_any (some x) len cap w (Nat.le_trans hD.2.1 hD.2.2.1)
  rw [szP_yes h1 h3] at hS
  have HF := Hid.mk (firstPart_any x len cap l w hD h1 h3)
  have hIF := fun W => inFirst_any (some x) len cap W (Nat.le_trans hD.2.1 hD.2.2.1)
  have HD := Hid.mk hD
  have HNP := Hid.mk (fun k W (hk : k < len) (hb : Below w.heap.size w W) => nextPart_any x len cap k l W (isBytes_below hD hb) hk h3)
  have HFP := Hid.mk (fpL_pos l)
  have HLL := Hid.mk hll
  have hlen3 : (len : Int) ≤ 300 := by omega
  obtain ⟨N, hN⟩ : ∃ N, N = nxN len := ⟨_, rfl⟩
  have hN42 : N ≤ 42 := by rw [hN]; exact nx_le len h3
  obtain ⟨F, hF⟩ : ∃ F, F = inF len := ⟨_, rfl⟩
  rw [← hF] at hIF
  have hF7 : F ≤ 7 := by rw [hF]; unfold inF; split <;> omega
  have HLT : Hid (∀ j, j ≤ N → (F + 7 * j < len ↔ j < N)) := Hid.mk (by rw [hN, hF]; exact fun j hj => at_lt hj)
  have HF6 : Hid (∀ j, j < N → F = 6) := Hid.mk (by rw [hN, hF]; exact fun j hj => (nx_pos hj).2)
  have HPL : Hid (partsL l = fpL l :: (List.range N).map fun j => npL l (6 + 7 * j)) := Hid.mk (by unfold partsL; rw [hll, hN])
  rw [← hN]
  clear hN hF hll hD
  generalize hFL : fpL l = FL at *
  clear hFL
  generalize hPL : partsL l = PL at *
  clear hPL
  go_enter Try.func9, Try.ntmps9
  go_wp2_with fail
  refine hS.mono ?_
  rintro e w1 ⟨rfl, hw1⟩
  rw [hw1]
  clear hw1 hS
  go_wp2_with fail
  refine HF.out.mono ?_
  rintro e w1 ⟨g1, c1, rfl, hg1, hY1, hb1⟩
  have HO1 := Hid.mk (OwnPts.one (w := w1) (base := w.heap.size) (v := ⟨⟨g1, 0, none⟩, c1, FL⟩) hb1.size hY1 HFP.out hg1)
  have HB1 := Hid.mk (bl2 hb1 (awG w1 (.cells #[.slice (some ⟨g1, 0, none⟩) FL.length c1] 22)))
  unfold PtV.cell at HO1
  simp only at HO1
  clear hg1 hY1 hb1 HF
  go_wp2_with fail
  refine (hIF _).mono ?_
  rintro e w2 ⟨rfl, hw2⟩
  rw [hw2]
  clear hw2 hIF
  go_wp2_with fail
  generalize (w1.alloc (.cells #[.slice (some ⟨g1, 0, none⟩) FL.length c1] 22)) = W1 at *
  have hF7' : (F : Int) ≤ 7 := by omega
  go_loopw [5, 6] (fun r i wr => ∃ (j : Nat) (P : List PtV), j ≤ N ∧ i = .int .i64 ((F + 7 * j : Nat) : Int) ∧ Hid (P.map (·.l) = FL :: (List.range j).map fun j => npL l (6 + 7 * j)) ∧ Hid (OwnPts wr w.heap.size r P) ∧ Hid (Below w.heap.size w wr)) (fun _ i _ => len - (intOf i).toNat)
  case atStart => exact ⟨0, [⟨⟨g1, 0, none⟩, c1, FL⟩], Nat.zero_le _, rfl, Hid.mk rfl, HO1, HB1⟩
  case round =>
    obtain ⟨j, P, hj, rfl, HM, HO, HB⟩ := hrel
    by_cases hlt : j < N
    · have hF6 := HF6.out j hlt
      have hk := (HLT.out j hj).2 hlt
      obtain ⟨k, hke0⟩ : ∃ k, k = F + 7 * j := ⟨_, rfl⟩
      rw [← hke0] at hk ⊢
      have hke : k = 6 + 7 * j := by rw [hke0, hF6]
      have hkl : (k : Int) < (len : Int) := by omega
      have HN := Hid.mk (HNP.out k wr hk HB.out)
      have HPL' : Hid (P.length = 1 + j) := Hid.mk (by have := congrArg List.length HM.out; simp at this; omega)
      have HNL : Hid (0 < (npL l k).length) := Hid.mk (by rw [npL_len]; omega)
      have HMM : Hid (∀ a c, (P ++ [(⟨a, c, npL l k⟩ : PtV)]).map (·.l) = FL :: (List.range (j + 1)).map fun j => npL l (6 + 7 * j)) := Hid.mk (by intro a c; rw [List.map_append, HM.out, List.range_succ, List.map_append, hke]; rfl)
      have HKE := Hid.mk hke0
      clear hke hke0 hF6
      generalize npL l k = NL at *
      go_wp2_with fail
      refine HN.out.mono ?_
      rintro e w2 ⟨g2, c2, rfl, hg2, hY2, hb2⟩
      have HO2 := Hid.mk (HO.out.kept hb2)
      have HB2 := Hid.mk (bl2 HB.out hb2)
      have HA := Hid.mk (fun q hq => Nat.lt_of_lt_of_le (HO.out.lt q hq).2 hg2)
      have HY2 := Hid.mk hY2
      have HGF : Hid (w.heap.size ≤ g2) := Hid.mk (Nat.le_trans HB.out.size hg2)
      clear hg2 hY2 hb2 HN
      go_wp2_with (at_builtin; refine wpList_append_two rfl (.tmp 23) (.tmp 27) 23 rfl w.heap.size 22 i0 (.slice none 0 0) 1 24 Try.underlying23 hi hz0 hz1 hz2 rfl (by decide) _ _ _ rfl (HO2.out.row.alloc _) ⟨w2.heap.size, 0, none⟩ 1 1 [.slice (some ⟨g2, 0, none⟩) NL.length c2] rfl rfl (by intro q u hq; rw [Addr.add_lit, Nat.zero_add, cell_of_row _ _ q _ _ _ (heap_alloc_new w2 _)]; simpa using hq) (by intro u hu; simp at hu; subst hu; rfl) (by decide) (by have := HPL'.out; unfold maxLen; omega) (by have := HPL'.out; omega) (by have := HB2.out.size; simp; omega) ?_; intro v3 w3 hown3 hgrow3 hblk3)
      have hb4 := awG w2 (.cells #[.slice (some ⟨g2, 0, none⟩) NL.length c2] 22)
      have hO4 := (HO2.out.kept hb4).add (v := ⟨⟨g2, 0, none⟩, c2, NL⟩) (isBytes_below HY2.out hb4) HNL.out (by intro e; have := HA.out _ e; simp at this) HGF.out hown3 hgrow3 hblk3
      have hB5 := Below.grown (bl2 HB2.out hb4) hgrow3 (bl2 HB2.out hb4).size (fun q hq => (HO2.out.row.lt q hq).1)
      have HO5 := Hid.mk hO4
      have HB5 := Hid.mk hB5
      clear hown3 hgrow3 hblk3 hb4 hO4 hB5 HY2 HA HO2 HB2
      go_wp2_with fail
      go_roundw
      case rel => exact ⟨j + 1, P ++ [⟨⟨g2, 0, none⟩, c2, NL⟩], by omega, by have := HKE.out; go_num, Hid.mk (HMM.out _ _), HO5, HB5⟩
      case measure => have := HKE.out; simp [intOf]; omega
    · obtain rfl : j = N := by omega
      have hk : ¬ (F + 7 * j < len) := fun h => hlt ((HLT.out j hj).1 h)
      obtain ⟨k, hke⟩ : ∃ k, k = F + 7 * j := ⟨_, rfl⟩
      rw [← hke] at hk ⊢
      have hkl : ¬ ((k : Int) < (len : Int)) := by omega
      clear hke
      obtain ⟨g, cp, rfl, hg, hpts⟩ := HO.out.pts (by have := congrArg List.length HM.out; simp at this; omega)
      have hptf := HO.out.ptsF rfl hg
      have hPlen : P.length = 1 + j := by have := congrArg List.length HM.out; simp at this; omega
      rw [HM.out, ← HPL.out] at hpts hptf
      obtain ⟨PN, hPN⟩ : ∃ PN, PN = P.length := ⟨_, rfl⟩
      rw [← hPN] at hpts hptf ⊢
      have HPN : Hid (PN = 1 + j) := Hid.mk (by rw [hPN]; exact hPlen)
      have HP := Hid.mk hpts
      have HPF := Hid.mk hptf
      have HG := Hid.mk hg
      clear hpts hptf hg hPlen hPN hlt
      go_wp2_with fail
      go_ret2
      exact ⟨g, cp, PN, rfl, HPN.out, HG.out, HP.out, HPF.out, HB.out⟩
end Bw
end Go.Proofs.Ytgjnfmbmndnihaa
