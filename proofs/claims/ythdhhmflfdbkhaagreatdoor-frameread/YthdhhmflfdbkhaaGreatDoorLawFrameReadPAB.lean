/- Joined out of our texts: FrRead6, FrRead7, FrCount, StuffFixed, FrFixed, FrRead8, IsRow, FrameOpen. -/
import Derived.Test.YthdhhmflfdbkhaaGreatDoorLawFrameReadPAA
import Derived.Test.YthdhhmflfdbkhaaGreatDoorLawFrameReadRAG
import Derived.Test.YthdhhmflfdbkhaaGreatDoorLawFrameReadRAH
import Derived.Test.YthdhhmflfdbkhaaGreatDoorLawFrameReadRAN
import Derived.Test.YthdhhmflfdbkhaaGreatDoorLawFrameReadRAF
import Derived.Test.YthdhhmflfdbkhaaGreatDoorLawFrameReadRAL
import Derived.Test.YthdhhmflfdbkhaaGreatDoorLawFrameReadRAA
import Derived.ChangeSlices
import Derived.OpenShut
/- What the reader's method readData does. -/
namespace Go.Proofs.YthdhhmflfdbkhaaGreatDoor
open Go.ChangeShapes Go.WideShapes Go.ChangeAt Go.RowKit
namespace Bw
open Bm Cm Go.Sort

theorem isBytes_ownP {w : World} {base : Nat} {v : Value} {n : Nat} {l : List UInt8} (h : w.ownsRow base 5 1 v n (cellsOf l)) :
    ∃ a cap, v = .slice a n cap ∧ IsBytes w a n cap l ∧ ∀ x, a = some x → base ≤ x.block := by
  have h0 := h
  obtain ⟨hl, h2⟩ := h
  have hn : l.length = n := by simpa [cellsOf] using hl
  rcases h2 with ⟨rfl, h1⟩ | ⟨g, cap, cur, rfl, hg, hh, hc, hm, hsz, htk⟩
  · subst h1; exact ⟨none, 0, rfl, ⟨hn, Nat.le_refl _, Nat.zero_le _, (fun _ => rfl), (fun x hx => by cases hx)⟩, fun x hx => by cases hx⟩
  · refine ⟨some ⟨g, 0, none⟩, cap, rfl, ⟨hn, hc, hm, (fun h => by cases h), fun x hx i hi => ?_⟩, fun x hx => by cases hx; exact hg⟩
    cases hx
    exact h0.cells rfl i _ (by simp [cellsOf, hn, hi])
/-- what lies in a reader's field Data, apart from the reader -/
def DataAt (w : World) (g : Nat) (d : Value) (l : List UInt8) : Prop := ∃ a len cap, d = .slice a len cap ∧ IsBytes w a len cap l ∧ ∀ x, a = some x → g < x.block
theorem DataAt.tch {w w' : World} {g : Nat} {d : Value} {l : List UInt8} (h : DataAt w g d l) (ht : Tch [g] w w') : DataAt w' g d l := by
  obtain ⟨a, len, cap, hd, hb, hg⟩ := h
  refine ⟨a, len, cap, hd, ⟨hb.1, hb.2.1, hb.2.2.1, hb.2.2.2.1, fun x hx i hi => ?_⟩, hg⟩
  have hv := hb.2.2.2.2 x hx i hi
  have hlt := block_lt_of_cell hv
  have hblk : (x.add i).block = x.block := by unfold Addr.add; split <;> rfl
  have hne : (x.add i).block ∉ [g] := by rw [hblk]; have := hg x hx; simp; omega
  unfold World.cell? at hv ⊢
  rw [ht.block _ hlt hne]
  exact hv
theorem SizesAt.tch {w w' : World} {g : Nat} (h : SizesAt w) (ht : Tch [g] w w') (hg : 0 ≠ g) : SizesAt w' := by
  intro i hi
  have hv := h i hi
  have hlt : 0 < w.heap.size := block_lt_of_cell hv
  unfold World.cell? at hv ⊢
  rw [ht.block _ hlt (by simpa using hg)]
  exact hv
theorem sizes_nat (k : Nat) (h : k < 16) : sizesI.getD k 0 = ((sizesL.getD k 0 : Nat) : Int) ∧ sizesL.getD k 0 ≤ 64 := by
  have : ∀ m : Fin 16, sizesI.getD m.val 0 = ((sizesL.getD m.val 0 : Nat) : Int) ∧ sizesL.getD m.val 0 ≤ 64 := by decide +kernel
  exact this ⟨k, h⟩
theorem topD_I (fa : Bool) : topDI fa = (topD fa : Int) := by cases fa <;> rfl
theorem take_eight (b : List UInt8) (S : RS) (D : Nat) : ∃ m, (takeP b S (8 * D)).1.length = 8 * m ∧ m ≤ D := by
  rcases takeP_len b S (8 * D) with h | h
  · exact ⟨D, h, Nat.le_refl _⟩
  · exact ⟨0, by rw [h]; rfl, Nat.zero_le _⟩

set_option maxHeartbeats 8000000 in
theorem readData_any (g : Nat) (b : ByteArray) (S : RS) (id : Int) (lo fa re : Bool) (n : Nat) (w : World) (h : RdAt w g b S ⟨id, lo, fa, re, 0, .slice none 0 0⟩) (hS : SizesAt w) (hg : 0 ≠ g) (hc : checkE b.data.toList = 0) (hi : Inv b.data.toList S n) (hn : n ≤ 400) :
    Calls Tryz.prog 24 #[.pointer (some ⟨g, 0, none⟩)] w fun e w' =>
      e = .returned (.tuple #[]) ∧ ∃ d, RdAt w' g b (dataP b.data.toList S fa re).S ⟨id, lo, fa, re, (dataP b.data.toList S fa re).sz, d⟩ ∧ DataAt w' g d (dataP b.data.toList S fa re).dt ∧ Tch [g] w w' := by
  have hrow := (small_of_check hc).2
  have i1 : Inv b.data.toList (numP b.data.toList S 4).2 (n + 4) := hi.num hrow 4
  have i2 : Inv b.data.toList (dt2 b.data.toList S fa) (n + 4) := by unfold dt2; split; exact i1.fail 4; exact i1
  have hN := numP_lt b.data.toList hrow S 4
  obtain ⟨hsz1, hsz2⟩ := sizes_nat (numP b.data.toList S 4).1 hN
  have a1 : ∀ (W : World) (F : Fd), RdAt W g b S F → _ := fun W F hW => numb_any g 4 b S F W hW hc (by have := hi.n; omega) (by omega)
  have a2 : ∀ (W : World) (F : Fd), RdAt W g b (numP b.data.toList S 4).2 F → _ := fun W F hW => fail_any g b _ F 4 W hW
  have hD : sizesL.getD (numP b.data.toList S 4).1 0 = dtN b.data.toList S := rfl
  rw [hD] at hsz1 hsz2
  have a3 : ∀ (W : World) (F : Fd), RdAt W g b (dt2 b.data.toList S fa) F → _ := fun W F hW => take_any g (8 * dtN b.data.toList S) b _ F W hW hc (by have := i2.n; omega)
  have hq2 : dt2 b.data.toList S fa = if topD fa < dtN b.data.toList S then failP (numP b.data.toList S 4).2 4 else (numP b.data.toList S 4).2 := rfl
  have hTr := takeP_row b.data.toList hrow (dt2 b.data.toList S fa) (8 * dtN b.data.toList S)
  obtain ⟨m, hm1, hm2⟩ := take_eight b.data.toList (dt2 b.data.toList S fa) (dtN b.data.toList S)
  have hsc : ∀ W, SizesAt W → W.cell? ⟨0, (numP b.data.toList S 4).1, none⟩ = some (.int .i64 (dtN b.data.toList S : Int)) := fun W hW => by
    have := hW (numP b.data.toList S 4).1 hN
    rw [hsz1] at this
    exact this
  unfold dataP
  generalize dtN b.data.toList S = D at *
  generalize numP b.data.toList S 4 = NN at *
  generalize dt2 b.data.toList S fa = S2 at *
  obtain ⟨N, S1⟩ := NN
  simp only at a1 a2 hN hq2 hsc ⊢
  have HS := Hid.mk hS
  have HA1 := Hid.mk a1
  have HA2 := Hid.mk a2
  have HA3 := Hid.mk a3
  have H := Hid.mk h
  have HSC := Hid.mk hsc
  have HG := Hid.mk hg
  have N16 : (N : Int) < 16 := by omega
  have D64 : (D : Int) ≤ 64 := by omega
  have htd := topD_I fa
  have hmd := fun W => maxData_any fa W
  have HMD := Hid.mk hmd
  have nS : DataAt w g (.slice none 0 0) [] := ⟨none, 0, 0, rfl, ⟨rfl, Nat.le_refl _, Nat.zero_le _, fun _ => rfl, fun x hx => by cases hx⟩, fun x hx => by cases hx⟩
  have HNS := Hid.mk nS
  clear a1 a2 a3 hS h hsc hrow i1 i2 hi hn hD hsz1 hsz2 hg nS hmd hN
  cases re
  · simp only [Bool.false_eq_true, if_false]
    generalize takeP b.data.toList S2 (8 * D) = A at *
    obtain ⟨t, S3⟩ := A
    simp only at HA3 hTr hm1 ⊢
    have lT := mk_list t
    generalize ByteArray.mk t.toArray = T at *
    have hby := fun W => bytes_ok T W (checkE_row (by rw [lT]; exact hTr) (by rw [lT, hm1]; omega)) m (by rw [ba_size lT, hm1])
    rw [lT] at hby
    have HBY := Hid.mk hby
    clear hby lT hTr
    have m64 : m ≤ 64 := by omega
    clear hm1 hm2
    by_cases hlt : topD fa < D
    · rw [if_pos hlt] at hq2
      have hcmp : topDI fa < (D : Int) := by rw [htd]; omega
      clear htd hlt
      go_enter Tryz.func24, Tryz.ntmps24
      go_wp2_with fail
      refine (HA1.out _ _ H.out).mono ?_
      rintro e w1 ⟨rfl, h1, t1⟩
      have cN := HSC.out _ (HS.out.tch t1 HG.out)
      have k6 := h1.c6
      have k7 := h1.c7
      have H1 := Hid.mk h1
      have T1 := Hid.mk t1
      clear h1 t1 H HA1
      go_wp2_with fail
      refine (HMD.out _).mono ?_
      rintro e w2 ⟨rfl, hw2⟩
      subst hw2
      clear HMD
      go_wp2_with fail
      refine (HA2.out _ _ H1.out).mono ?_
      rintro e w3 ⟨rfl, h3, t3⟩
      rw [← hq2] at h3
      have k7' := h3.c7
      have k8' := h3.c8
      have z8' := h3.z 8
      have k9' := h3.c9
      have z9' := h3.z 9
      have H3 := Hid.mk h3
      have T3 := Hid.mk (T1.out.trans t3)
      clear h3 t3 k6 k7 cN
      go_wp2_with fail
      rw [show (D : Int) * 8 = ((8 * D : Nat) : Int) by omega]
      refine (HA3.out _ _ H3.out).mono ?_
      rintro e w4 ⟨rfl, h4, t4⟩
      have T4 := Hid.mk (T3.out.trans t4)
      have kk9 := h4.c9
      have zz9 := h4.z 9
      have H4 := Hid.mk h4
      clear t4 h4 k7' k8' z8' k9' z9' H3 T3
      go_wp2_with fail
      refine (HBY.out _).mono ?_
      rintro e w5 ⟨v, rfl, hown, hb5⟩
      have h5 := H4.out.kept hb5
      obtain ⟨a, cap, rfl, hbv, hblk⟩ := isBytes_ownP hown
      have hlt := H4.out.lt
      have kc9 := h5.c9
      have zc9 := h5.z 9
      have T5 := Hid.mk ((T4.out.trans (Tch.of hb5)))
      have HD5 := Hid.mk (show DataAt w5 g (.slice a m cap) (bytesL t) from ⟨a, m, cap, rfl, hbv, fun x hx => by have := hblk x hx; omega⟩)
      have H5 := Hid.mk h5
      clear h5 hown hb5 hbv hblk hlt kk9 zz9
      go_wp2_with fail
      go_end0
      exact ⟨rfl, _, H5.out.setD _, HD5.out.tch ((Tch.refl _ _).setK (by simp) _ _), T5.out.setK (by simp) _ _⟩
    · rw [if_neg hlt] at hq2
      have hcmp : (D : Int) ≤ topDI fa := by rw [htd]; omega
      subst hq2
      clear htd hlt
      go_enter Tryz.func24, Tryz.ntmps24
      go_wp2_with fail
      refine (HA1.out _ _ H.out).mono ?_
      rintro e w1 ⟨rfl, h1, t1⟩
      have cN := HSC.out _ (HS.out.tch t1 HG.out)
      have k6 := h1.c6
      have k7 := h1.c7
      have k8' := h1.c8
      have z8' := h1.z 8
      have k9' := h1.c9
      have z9' := h1.z 9
      have H1 := Hid.mk h1
      have T1 := Hid.mk t1
      clear h1 t1 H HA1
      go_wp2_with fail
      refine (HMD.out _).mono ?_
      rintro e w2 ⟨rfl, hw2⟩
      subst hw2
      clear HMD
      go_wp2_with fail
      have H3 := H1
      have T3 := T1
      rw [show (D : Int) * 8 = ((8 * D : Nat) : Int) by omega]
      refine (HA3.out _ _ H3.out).mono ?_
      rintro e w4 ⟨rfl, h4, t4⟩
      have T4 := Hid.mk (T3.out.trans t4)
      have kk9 := h4.c9
      have zz9 := h4.z 9
      have H4 := Hid.mk h4
      clear t4 h4 k6 k7 cN k8' z8' k9' z9' H3 T3 H1 T1
      go_wp2_with fail
      refine (HBY.out _).mono ?_
      rintro e w5 ⟨v, rfl, hown, hb5⟩
      have h5 := H4.out.kept hb5
      obtain ⟨a, cap, rfl, hbv, hblk⟩ := isBytes_ownP hown
      have hlt := H4.out.lt
      have kc9 := h5.c9
      have zc9 := h5.z 9
      have T5 := Hid.mk ((T4.out.trans (Tch.of hb5)))
      have HD5 := Hid.mk (show DataAt w5 g (.slice a m cap) (bytesL t) from ⟨a, m, cap, rfl, hbv, fun x hx => by have := hblk x hx; omega⟩)
      have H5 := Hid.mk h5
      clear h5 hown hb5 hbv hblk hlt kk9 zz9
      go_wp2_with fail
      go_end0
      exact ⟨rfl, _, H5.out.setD _, HD5.out.tch ((Tch.refl _ _).setK (by simp) _ _), T5.out.setK (by simp) _ _⟩
  · simp only [if_true]
    clear HA3 hTr hm1 hm2
    by_cases hlt : topD fa < D
    · rw [if_pos hlt] at hq2
      have hcmp : topDI fa < (D : Int) := by rw [htd]; omega
      clear htd hlt
      go_enter Tryz.func24, Tryz.ntmps24
      go_wp2_with fail
      refine (HA1.out _ _ H.out).mono ?_
      rintro e w1 ⟨rfl, h1, t1⟩
      have cN := HSC.out _ (HS.out.tch t1 HG.out)
      have k6 := h1.c6
      have k7 := h1.c7
      have H1 := Hid.mk h1
      have T1 := Hid.mk t1
      clear h1 t1 H HA1
      go_wp2_with fail
      refine (HMD.out _).mono ?_
      rintro e w2 ⟨rfl, hw2⟩
      subst hw2
      clear HMD
      go_wp2_with fail
      refine (HA2.out _ _ H1.out).mono ?_
      rintro e w3 ⟨rfl, h3, t3⟩
      rw [← hq2] at h3
      have k7' := h3.c7
      have k8' := h3.c8
      have z8' := h3.z 8
      have k9' := h3.c9
      have z9' := h3.z 9
      have H3 := Hid.mk h3
      have T3 := Hid.mk (T1.out.trans t3)
      clear h3 t3 k6 k7 cN
      go_wp2_with fail
      (try simp only [Exit.inBlock, Exit.then]); refine bodyPost_ret (results_none rfl _ _ _) rfl ?_
      exact ⟨rfl, _, H3.out.setSz (D : Int), HNS.out.tch (T3.out.setK (by simp) 8 (.int .i64 D)), T3.out.setK (by simp) _ _⟩
    · rw [if_neg hlt] at hq2
      have hcmp : (D : Int) ≤ topDI fa := by rw [htd]; omega
      subst hq2
      clear htd hlt
      go_enter Tryz.func24, Tryz.ntmps24
      go_wp2_with fail
      refine (HA1.out _ _ H.out).mono ?_
      rintro e w1 ⟨rfl, h1, t1⟩
      have cN := HSC.out _ (HS.out.tch t1 HG.out)
      have k6 := h1.c6
      have k7 := h1.c7
      have k8' := h1.c8
      have z8' := h1.z 8
      have k9' := h1.c9
      have z9' := h1.z 9
      have H1 := Hid.mk h1
      have T1 := Hid.mk t1
      clear h1 t1 H HA1
      go_wp2_with fail
      refine (HMD.out _).mono ?_
      rintro e w2 ⟨rfl, hw2⟩
      subst hw2
      clear HMD
      go_wp2_with fail
      have H3 := H1
      have T3 := T1
      (try simp only [Exit.inBlock, Exit.then]); refine bodyPost_ret (results_none rfl _ _ _) rfl ?_
      exact ⟨rfl, _, H3.out.setSz (D : Int), HNS.out.tch (T3.out.setK (by simp) 8 (.int .i64 D)), T3.out.setK (by simp) _ _⟩
end Bw
end Go.Proofs.YthdhhmflfdbkhaaGreatDoor

/- What unfixed answers. -/
namespace Go.Proofs.YthdhhmflfdbkhaaGreatDoor
open Go.ChangeShapes Go.WideShapes Go.ChangeAt Go.RowKit
namespace Bw
open Bm Cm

theorem unfixL_snoc : ∀ (x : List UInt8) (j : Nat) (c : UInt8), unfixL (x ++ [c]) j = unfixL x j ++ (if (j + x.length) % 5 = 0 then [] else [c])
  | [], j, c => by simp only [List.nil_append, unfixL, List.length_nil, Nat.add_zero]
  | d :: x, j, c => by
    rw [List.cons_append, unfixL, unfixL, unfixL_snoc x (j + 1) c, List.length_cons, show j + 1 + x.length = j + (x.length + 1) by omega]
    split <;> simp
theorem unfixL_len : ∀ (x : List UInt8) (j : Nat), (unfixL x j).length ≤ x.length
  | [], _ => Nat.le_refl _
  | d :: x, j => by
    have := unfixL_len x (j + 1)
    rw [unfixL]; split <;> simp <;> omega
theorem unfixL_row : ∀ (x : List UInt8) (j : Nat), rowB x = true → rowB (unfixL x j) = true
  | [], _, _ => rfl
  | d :: x, j, h => by
    have h' : bit d = true ∧ rowB x = true := by simpa [rowB] using h
    have := unfixL_row x (j + 1) h'.2
    rw [unfixL]
    split
    · exact this
    · simp [rowB] at this ⊢
      exact ⟨h'.1, this⟩
set_option maxHeartbeats 4000000 in
set_option maxRecDepth 100000 in
theorem unfixed_any (s : ByteArray) (w : World) (hs : s.size ≤ 1000) :
    Calls Tryz.prog 57 #[.string s] w fun e w' => e = .returned (.string ⟨(unfixL s.data.toList 0).toArray⟩) ∧ Below w.heap.size w w' := by
  obtain ⟨i0, hi, hz0, hz1, hz2⟩ := info_parts info_u8
  have hll : s.data.toList.length = s.size := by simp
  have HLL := Hid.mk hll
  clear hll
  go_enter Tryz.func57, Tryz.ntmps57
  go_wp2_with fail
  go_loopw [3, 7] (fun r i wr => ∃ k : Nat, k ≤ s.size ∧ i = .int .i64 k ∧ wr.ownsRow w.heap.size 5 1 r (unfixL (s.data.toList.take k) 0).length (cellsOf (unfixL (s.data.toList.take k) 0)) ∧ Below w.heap.size w wr) (fun _ i _ => s.size - (intOf i).toNat)
  case atStart => exact ⟨0, Nat.zero_le _, rfl, World.ownsRow_nil _ _ _ _, Below.refl _ _⟩
  case round =>
    obtain ⟨k, hk, rfl, hown, hbel⟩ := hrel
    by_cases hlt : k < s.size
    · have hlt' : (k : Int) < (s.size : Int) := by omega
      obtain ⟨c, hcE⟩ : ∃ c, c = s[k] := ⟨_, rfl⟩
      have hgd : s.data.toList.getD k 0 = c := by rw [hcE, at_getD s k hlt]
      have hcv : s[k] = c := hcE.symm
      have hnx : unfixL (s.data.toList.take (k + 1)) 0 = unfixL (s.data.toList.take k) 0 ++ (if k % 5 = 0 then [] else [c]) := by
        rw [take_snocL _ _ (by rw [HLL.out]; exact hlt), unfixL_snoc, hgd, List.length_take, HLL.out, Nat.zero_add, Nat.min_eq_left hk]
      have hol := unfixL_len (s.data.toList.take k) 0
      rw [List.length_take, HLL.out] at hol
      generalize unfixL (s.data.toList.take k) 0 = o at *
      have hol2 : o.length ≤ 1000 := by omega
      have HNX := Hid.mk hnx
      clear hcE hgd hnx hol
      by_cases h5 : k % 5 = 0
      · have hm : (k : Int).tmod 5 = 0 := by rw [Int.tmod_eq_emod_of_nonneg (by omega)]; omega
        have HO := Hid.mk hown
        clear hown
        go_wp2_with fail
        go_roundw
        case rel => exact ⟨k + 1, by omega, by go_num, by rw [HNX.out, if_pos h5, List.append_nil]; exact HO.out, hbel⟩
        case measure => simp [intOf]; omega
      · have hm : ((k : Int).tmod 5 != 0) = true := by rw [Int.tmod_eq_emod_of_nonneg (by omega)]; simp; omega
        have hm2 : ((k : Int).tmod 5 == 0) = false := by rw [Int.tmod_eq_emod_of_nonneg (by omega)]; rw [beq_eq_false_iff_ne]; omega
        have hm3 : ¬ (k : Int).tmod 5 = 0 := by simpa using hm
        have hsz := hbel.size
        go_wp2_with (at_builtin; refine wpList_append_own _ rfl (.tmp 13) (.tmp 17) 22 rfl w.heap.size 5 i0 (.int .u8 0) 1 1 Tryz.underlying22 hi hz0 hz1 hz2 rfl (by decide) _ _ _ rfl (hown.alloc _) ⟨wr.heap.size, 0, none⟩ 1 1 [Value.int .u8 c.toNat] rfl rfl (by intro q u hq; match q, hq with | 0, hq => (simp at hq; subst hq; simp [Addr.add])) (by intro u hu; simp at hu; subst hu; rfl) (by unfold maxLen; omega) (by omega) (by simp; omega) ?_; intro v1 w3 hown1 hgrow1 _)
        have hbw3 : Below w.heap.size wr w3 := Below.grown ((Below.refl _ _).alloc hsz _) hgrow1 (by simp; omega) (fun q hq => (hown.lt q hq).1)
        have hbel3 := hbel.trans hbw3
        have hown1' : w3.ownsRow w.heap.size 5 1 v1 (o ++ [c]).length (cellsOf (o ++ [c])) := by
          rw [cellsOf_append, List.length_append]; exact hown1
        have HO := Hid.mk hown1'
        clear hown hown1 hown1' hgrow1 hbw3 hbel hsz
        go_wp2_with fail
        go_roundw
        case rel => exact ⟨k + 1, by omega, by go_num, by rw [HNX.out, if_neg h5]; exact HO.out, hbel3⟩
        case measure => simp [intOf]; omega
    · have e : k = s.size := by omega
      subst e
      rw [List.take_of_length_le (by rw [HLL.out]; exact Nat.le_refl _)] at hown
      have hcv := convert_own hown
      clear hown
      go_wp2_with fail
      go_ret
      exact ⟨rfl, hbel⟩
end Bw
end Go.Proofs.YthdhhmflfdbkhaaGreatDoor

/- What frame.countOf answers. -/
namespace Go.Proofs.YthdhhmflfdbkhaaGreatDoor
open Go.ChangeShapes Go.WideShapes Go.ChangeAt Go.RowKit
namespace Bw
open Bm Cm

set_option maxHeartbeats 1000000 in
theorem count_0 (p : Nat) (w : World) (h : (p : Int).tmod 8 = 0) :
    Calls Tryz.prog 82 #[.int .i64 p] w fun e w' => e = .returned (.string ⟨(grayL 0).toArray⟩) ∧ Below w.heap.size w w' := by
  have hx : bits .xor .i64 0 0 = 0 := by decide
  have hr := fun W => row_ok 0 3 W (by omega) (by omega)
  have hl : (bitsHead 0 3 3).toArray = #[48, 48, 48] := by decide
  rw [hl] at hr
  have hcn := fun W => Tryz.strings_Count_one ⟨#[48, 48, 48]⟩ 49 W
  have hc2 : Lib.countByte (ByteArray.mk #[48, 48, 48]).data.toList 49 = 0 := by decide
  rw [hc2] at hcn
  have HR := Hid.mk hr
  have HC := Hid.mk hcn
  clear hr hcn hc2 hl
  go_enter Tryz.func82, Tryz.ntmps82
  go_wp2_with fail
  try rw [hx]
  refine (HR.out _).mono ?_
  rintro e w1 ⟨rfl, hb1⟩
  clear HR
  go_wp2_with fail
  refine (HC.out _).mono ?_
  rintro e w2 ⟨rfl, hw⟩
  subst hw
  go_wp2_with fail
  refine (frBit_any false _).mono ?_
  rintro e w3 ⟨rfl, hw⟩
  subst hw
  go_wp2_with fail
  go_ret
  exact ⟨rfl, hb1⟩
set_option maxHeartbeats 1000000 in
theorem count_1 (p : Nat) (w : World) (h : (p : Int).tmod 8 = 1) :
    Calls Tryz.prog 82 #[.int .i64 p] w fun e w' => e = .returned (.string ⟨(grayL 1).toArray⟩) ∧ Below w.heap.size w w' := by
  have hx : bits .xor .i64 1 0 = 1 := by decide
  have hr := fun W => row_ok 1 3 W (by omega) (by omega)
  have hl : (bitsHead 1 3 3).toArray = #[48, 48, 49] := by decide
  rw [hl] at hr
  have hcn := fun W => Tryz.strings_Count_one ⟨#[48, 48, 49]⟩ 49 W
  have hc2 : Lib.countByte (ByteArray.mk #[48, 48, 49]).data.toList 49 = 1 := by decide
  rw [hc2] at hcn
  have HR := Hid.mk hr
  have HC := Hid.mk hcn
  clear hr hcn hc2 hl
  go_enter Tryz.func82, Tryz.ntmps82
  go_wp2_with fail
  try rw [hx]
  refine (HR.out _).mono ?_
  rintro e w1 ⟨rfl, hb1⟩
  clear HR
  go_wp2_with fail
  refine (HC.out _).mono ?_
  rintro e w2 ⟨rfl, hw⟩
  subst hw
  go_wp2_with fail
  refine (frBit_any true _).mono ?_
  rintro e w3 ⟨rfl, hw⟩
  subst hw
  go_wp2_with fail
  go_ret
  exact ⟨rfl, hb1⟩
set_option maxHeartbeats 1000000 in
theorem count_2 (p : Nat) (w : World) (h : (p : Int).tmod 8 = 2) :
    Calls Tryz.prog 82 #[.int .i64 p] w fun e w' => e = .returned (.string ⟨(grayL 2).toArray⟩) ∧ Below w.heap.size w w' := by
  have hx : bits .xor .i64 2 1 = 3 := by decide
  have hr := fun W => row_ok 3 3 W (by omega) (by omega)
  have hl : (bitsHead 3 3 3).toArray = #[48, 49, 49] := by decide
  rw [hl] at hr
  have hcn := fun W => Tryz.strings_Count_one ⟨#[48, 49, 49]⟩ 49 W
  have hc2 : Lib.countByte (ByteArray.mk #[48, 49, 49]).data.toList 49 = 2 := by decide
  rw [hc2] at hcn
  have HR := Hid.mk hr
  have HC := Hid.mk hcn
  clear hr hcn hc2 hl
  go_enter Tryz.func82, Tryz.ntmps82
  go_wp2_with fail
  try rw [hx]
  refine (HR.out _).mono ?_
  rintro e w1 ⟨rfl, hb1⟩
  clear HR
  go_wp2_with fail
  refine (HC.out _).mono ?_
  rintro e w2 ⟨rfl, hw⟩
  subst hw
  go_wp2_with fail
  refine (frBit_any false _).mono ?_
  rintro e w3 ⟨rfl, hw⟩
  subst hw
  go_wp2_with fail
  go_ret
  exact ⟨rfl, hb1⟩
set_option maxHeartbeats 1000000 in
theorem count_3 (p : Nat) (w : World) (h : (p : Int).tmod 8 = 3) :
    Calls Tryz.prog 82 #[.int .i64 p] w fun e w' => e = .returned (.string ⟨(grayL 3).toArray⟩) ∧ Below w.heap.size w w' := by
  have hx : bits .xor .i64 3 1 = 2 := by decide
  have hr := fun W => row_ok 2 3 W (by omega) (by omega)
  have hl : (bitsHead 2 3 3).toArray = #[48, 49, 48] := by decide
  rw [hl] at hr
  have hcn := fun W => Tryz.strings_Count_one ⟨#[48, 49, 48]⟩ 49 W
  have hc2 : Lib.countByte (ByteArray.mk #[48, 49, 48]).data.toList 49 = 1 := by decide
  rw [hc2] at hcn
  have HR := Hid.mk hr
  have HC := Hid.mk hcn
  clear hr hcn hc2 hl
  go_enter Tryz.func82, Tryz.ntmps82
  go_wp2_with fail
  try rw [hx]
  refine (HR.out _).mono ?_
  rintro e w1 ⟨rfl, hb1⟩
  clear HR
  go_wp2_with fail
  refine (HC.out _).mono ?_
  rintro e w2 ⟨rfl, hw⟩
  subst hw
  go_wp2_with fail
  refine (frBit_any true _).mono ?_
  rintro e w3 ⟨rfl, hw⟩
  subst hw
  go_wp2_with fail
  go_ret
  exact ⟨rfl, hb1⟩
set_option maxHeartbeats 1000000 in
theorem count_4 (p : Nat) (w : World) (h : (p : Int).tmod 8 = 4) :
    Calls Tryz.prog 82 #[.int .i64 p] w fun e w' => e = .returned (.string ⟨(grayL 4).toArray⟩) ∧ Below w.heap.size w w' := by
  have hx : bits .xor .i64 4 2 = 6 := by decide
  have hr := fun W => row_ok 6 3 W (by omega) (by omega)
  have hl : (bitsHead 6 3 3).toArray = #[49, 49, 48] := by decide
  rw [hl] at hr
  have hcn := fun W => Tryz.strings_Count_one ⟨#[49, 49, 48]⟩ 49 W
  have hc2 : Lib.countByte (ByteArray.mk #[49, 49, 48]).data.toList 49 = 2 := by decide
  rw [hc2] at hcn
  have HR := Hid.mk hr
  have HC := Hid.mk hcn
  clear hr hcn hc2 hl
  go_enter Tryz.func82, Tryz.ntmps82
  go_wp2_with fail
  try rw [hx]
  refine (HR.out _).mono ?_
  rintro e w1 ⟨rfl, hb1⟩
  clear HR
  go_wp2_with fail
  refine (HC.out _).mono ?_
  rintro e w2 ⟨rfl, hw⟩
  subst hw
  go_wp2_with fail
  refine (frBit_any false _).mono ?_
  rintro e w3 ⟨rfl, hw⟩
  subst hw
  go_wp2_with fail
  go_ret
  exact ⟨rfl, hb1⟩
set_option maxHeartbeats 1000000 in
theorem count_5 (p : Nat) (w : World) (h : (p : Int).tmod 8 = 5) :
    Calls Tryz.prog 82 #[.int .i64 p] w fun e w' => e = .returned (.string ⟨(grayL 5).toArray⟩) ∧ Below w.heap.size w w' := by
  have hx : bits .xor .i64 5 2 = 7 := by decide
  have hr := fun W => row_ok 7 3 W (by omega) (by omega)
  have hl : (bitsHead 7 3 3).toArray = #[49, 49, 49] := by decide
  rw [hl] at hr
  have hcn := fun W => Tryz.strings_Count_one ⟨#[49, 49, 49]⟩ 49 W
  have hc2 : Lib.countByte (ByteArray.mk #[49, 49, 49]).data.toList 49 = 3 := by decide
  rw [hc2] at hcn
  have HR := Hid.mk hr
  have HC := Hid.mk hcn
  clear hr hcn hc2 hl
  go_enter Tryz.func82, Tryz.ntmps82
  go_wp2_with fail
  try rw [hx]
  refine (HR.out _).mono ?_
  rintro e w1 ⟨rfl, hb1⟩
  clear HR
  go_wp2_with fail
  refine (HC.out _).mono ?_
  rintro e w2 ⟨rfl, hw⟩
  subst hw
  go_wp2_with fail
  refine (frBit_any true _).mono ?_
  rintro e w3 ⟨rfl, hw⟩
  subst hw
  go_wp2_with fail
  go_ret
  exact ⟨rfl, hb1⟩
set_option maxHeartbeats 1000000 in
theorem count_6 (p : Nat) (w : World) (h : (p : Int).tmod 8 = 6) :
    Calls Tryz.prog 82 #[.int .i64 p] w fun e w' => e = .returned (.string ⟨(grayL 6).toArray⟩) ∧ Below w.heap.size w w' := by
  have hx : bits .xor .i64 6 3 = 5 := by decide
  have hr := fun W => row_ok 5 3 W (by omega) (by omega)
  have hl : (bitsHead 5 3 3).toArray = #[49, 48, 49] := by decide
  rw [hl] at hr
  have hcn := fun W => Tryz.strings_Count_one ⟨#[49, 48, 49]⟩ 49 W
  have hc2 : Lib.countByte (ByteArray.mk #[49, 48, 49]).data.toList 49 = 2 := by decide
  rw [hc2] at hcn
  have HR := Hid.mk hr
  have HC := Hid.mk hcn
  clear hr hcn hc2 hl
  go_enter Tryz.func82, Tryz.ntmps82
  go_wp2_with fail
  try rw [hx]
  refine (HR.out _).mono ?_
  rintro e w1 ⟨rfl, hb1⟩
  clear HR
  go_wp2_with fail
  refine (HC.out _).mono ?_
  rintro e w2 ⟨rfl, hw⟩
  subst hw
  go_wp2_with fail
  refine (frBit_any false _).mono ?_
  rintro e w3 ⟨rfl, hw⟩
  subst hw
  go_wp2_with fail
  go_ret
  exact ⟨rfl, hb1⟩
set_option maxHeartbeats 1000000 in
theorem count_7 (p : Nat) (w : World) (h : (p : Int).tmod 8 = 7) :
    Calls Tryz.prog 82 #[.int .i64 p] w fun e w' => e = .returned (.string ⟨(grayL 7).toArray⟩) ∧ Below w.heap.size w w' := by
  have hx : bits .xor .i64 7 3 = 4 := by decide
  have hr := fun W => row_ok 4 3 W (by omega) (by omega)
  have hl : (bitsHead 4 3 3).toArray = #[49, 48, 48] := by decide
  rw [hl] at hr
  have hcn := fun W => Tryz.strings_Count_one ⟨#[49, 48, 48]⟩ 49 W
  have hc2 : Lib.countByte (ByteArray.mk #[49, 48, 48]).data.toList 49 = 1 := by decide
  rw [hc2] at hcn
  have HR := Hid.mk hr
  have HC := Hid.mk hcn
  clear hr hcn hc2 hl
  go_enter Tryz.func82, Tryz.ntmps82
  go_wp2_with fail
  try rw [hx]
  refine (HR.out _).mono ?_
  rintro e w1 ⟨rfl, hb1⟩
  clear HR
  go_wp2_with fail
  refine (HC.out _).mono ?_
  rintro e w2 ⟨rfl, hw⟩
  subst hw
  go_wp2_with fail
  refine (frBit_any true _).mono ?_
  rintro e w3 ⟨rfl, hw⟩
  subst hw
  go_wp2_with fail
  go_ret
  exact ⟨rfl, hb1⟩
theorem countOf_any (p : Nat) (w : World) :
    Calls Tryz.prog 82 #[.int .i64 p] w fun e w' => e = .returned (.string ⟨(grayL (p % 8)).toArray⟩) ∧ Below w.heap.size w w' := by
  have hq : (p : Int).tmod 8 = ((p % 8 : Nat) : Int) := by rw [Int.tmod_eq_emod_of_nonneg (by omega)]; omega
  have hlt : p % 8 < 8 := Nat.mod_lt _ (by omega)
  generalize p % 8 = q at *
  match q, hlt with
  | 0, _ => exact count_0 p w hq
  | 1, _ => exact count_1 p w hq
  | 2, _ => exact count_2 p w hq
  | 3, _ => exact count_3 p w hq
  | 4, _ => exact count_4 p w hq
  | 5, _ => exact count_5 p w hq
  | 6, _ => exact count_6 p w hq
  | 7, _ => exact count_7 p w hq
  | n + 8, h => exact absurd h (by omega)
end Bw
end Go.Proofs.YthdhhmflfdbkhaaGreatDoor

/- What stuff.Fixed answers of any text and any byte: a bit ahead of each fourth, and else which error. -/
namespace Go.Proofs.YthdhhmflfdbkhaaGreatDoor
open Go.ChangeShapes Go.WideShapes Go.ChangeAt Go.RowKit
namespace Bw
open Bm

set_option maxHeartbeats 1000000 in
theorem fixed_bad (s : ByteArray) (a : Int) (w : World) (hs : s.size ≤ maxLen) (hc : checkE s.data.toList ≠ 0) :
    Calls Tryz.prog 56 #[.string s, .int .u8 a] w fun e w' => e = .returned (.tuple #[.string ⟨#[]⟩, .int .i64 (checkE s.data.toList)]) ∧ Below w.heap.size w w' := by
  have HS := Hid.mk hs
  have hc' : (checkE s.data.toList == 0) = false := by simpa using hc
  clear hs
  go_enter Tryz.func56, Tryz.ntmps56
  go_wp2_with fail
  refine (check_any s w HS.out).mono ?_
  rintro e w1 ⟨rfl, hb1⟩
  go_wp2_with fail
  go_ret2
  exact ⟨rfl, hb1⟩

set_option maxHeartbeats 1000000 in
theorem fixed_range (s : ByteArray) (a : Int) (w : World) (hc : checkE s.data.toList = 0) (h0 : a ≠ 48) (h1 : a ≠ 49) :
    Calls Tryz.prog 56 #[.string s, .int .u8 a] w fun e w' => e = .returned (.tuple #[.string ⟨#[]⟩, .int .i64 3]) ∧ Below w.heap.size w w' := by
  obtain ⟨h1000, hrow⟩ := small_of_check hc
  have hck := fun W => check_any s W (by unfold maxLen; omega)
  rw [hc] at hck
  have h0' : (a != 48) = true := by simpa using h0
  have h1' : (a != 49) = true := by simpa using h1
  clear hc hrow h0 h1
  go_enter Tryz.func56, Tryz.ntmps56
  go_wp2_with fail
  refine (hck w).mono ?_
  rintro e w1 ⟨rfl, hb1⟩
  clear hck
  go_wp2_with fail
  go_ret2
  exact ⟨rfl, hb1⟩

theorem bit_bools {c : UInt8} (h : bit c = true) : ((c.toNat : Int) != 48 && (c.toNat : Int) != 49) = false := by
  rcases (bit_iff c).1 h with h | h <;> rw [h] <;> rfl

set_option maxHeartbeats 8000000 in
theorem fixed_ok (s : ByteArray) (a : UInt8) (w : World) (hc : checkE s.data.toList = 0) (ha : bit a = true) :
    Calls Tryz.prog 56 #[.string s, .int .u8 a.toNat] w fun e w' => e = .returned (.tuple #[.string ⟨(fixR s.data.toList a s.size).toArray⟩, .int .i64 0]) ∧ Below w.heap.size w w' := by
  obtain ⟨i0, hi, hz0, hz1, hz2⟩ := info_parts info_u8
  obtain ⟨h1000, hrow⟩ := small_of_check hc
  have hck := fun W => check_any s W (by unfold maxLen; omega)
  rw [hc] at hck
  have HR := Hid.mk hrow
  have HA := Hid.mk ha
  have hll : s.data.toList.length = s.size := by simp
  have HLL := Hid.mk hll
  have hab : ((a.toNat : Int) != 48) = false ∨ (((a.toNat : Int) != 48) = true ∧ ((a.toNat : Int) != 49) = false) := by
    rcases (bit_iff a).1 ha with h | h
    · left; rw [h]; rfl
    · right; rw [h]; exact ⟨rfl, rfl⟩
  clear hc hrow ha hll
  go_enter Tryz.func56, Tryz.ntmps56
  go_wp2_with fail
  refine (hck w).mono ?_
  rintro e w1 ⟨rfl, hb1⟩
  clear hck
  have hw1 := hb1.size
  rcases hab with hab | ⟨hab, hab2⟩
  all_goals focus
    go_wp2_with fail
    go_loopw [1, 7, 22] (fun av r i wr => ∃ k : Nat, k ≤ s.size ∧ i = .int .i64 k ∧ av = .int .u8 (fixP s.data.toList a k).toNat ∧ wr.ownsRow w.heap.size 5 1 r (fixR s.data.toList a k).length (cellsOf (fixR s.data.toList a k)) ∧ Below w.heap.size w wr) (fun _ _ i _ => s.size - (intOf i).toNat)
    case atStart => exact ⟨0, Nat.zero_le _, rfl, rfl, World.ownsRow_nil _ _ _ _, hb1⟩
    case round =>
      obtain ⟨k, hk, rfl, rfl, hown, hbel⟩ := hrel
      obtain ⟨o, ho⟩ : ∃ o, o = fixR s.data.toList a k := ⟨_, rfl⟩
      obtain ⟨p, hp⟩ : ∃ p, p = fixP s.data.toList a k := ⟨_, rfl⟩
      rw [← ho] at hown
      rw [← hp]
      have hsz := hbel.size
      have hol : o.length ≤ 2000 := by
        have := fixR_len s.data.toList a k
        rw [← ho] at this
        omega
      have hpb : bit p = true := by
        rw [hp]
        cases k with
        | zero => exact HA.out
        | succ k => rw [show fixP s.data.toList a (k + 1) = s.data.toList.getD k 0 from rfl, ← at_getD s k (by omega)]; exact rowB_at HR.out k (by omega)
      have HO := Hid.mk ho
      have HP := Hid.mk hp
      have HPB := Hid.mk hpb
      clear ho hp hpb
      by_cases hlt : k < s.size
      · have hlt' : (k : Int) < (s.size : Int) := by omega
        obtain ⟨c, hcE⟩ : ∃ c, c = s[k] := ⟨_, rfl⟩
        have hgd : s.data.toList.getD k 0 = c := by rw [hcE, at_getD s k hlt]
        have hP2 : fixP s.data.toList a (k + 1) = c := hgd
        have HP2 := Hid.mk hP2
        have HGD := Hid.mk hgd
        have hcv : s[k] = c := hcE.symm
        clear hcE hgd hP2
        by_cases h4 : k % 4 = 0
        · have h4' : ((k : Int) % 4 == 0) = true := by simp; omega
          have hnext : fixR s.data.toList a (k + 1) = o ++ [otb p] ++ [c] := by rw [fixR, if_pos h4, ← HO.out, ← HP.out, HGD.out]
          have HN := Hid.mk hnext
          clear hnext h4
          go_wp2_with fail
          refine (otherS_any p _ HPB.out).mono ?_
          rintro e w2 ⟨rfl, hw2⟩
          subst hw2
          have hol2 : (o ++ [otb p]).length ≤ 2001 := by rw [List.length_append]; simp; omega
          go_wp2_with (first
            | (at_builtin; refine wpList_append_own _ rfl (.tmp 28) (.tmp 31) 22 rfl w.heap.size 5 i0 (.int .u8 0) 1 1 Tryz.underlying22 hi hz0 hz1 hz2 rfl (by decide) _ _ _ rfl (hown.alloc _) ⟨w2.heap.size, 0, none⟩ 1 1 [Value.int .u8 (otb p).toNat] rfl rfl (by intro q u hq; match q, hq with | 0, hq => (simp at hq; subst hq; simp [Addr.add])) (by intro u hu; simp at hu; subst hu; rfl) (by unfold maxLen; omega) (by omega) (by simp; omega) ?_; intro v1 w3 hown1 hgrow1 _
               have hbel3 : Below w.heap.size w w3 := Below.grown (hbel.alloc hsz _) hgrow1 (by simp; omega) (fun q hq => (hown.lt q hq).1)
               have hown1' : w3.ownsRow w.heap.size 5 1 v1 (o ++ [otb p]).length (cellsOf (o ++ [otb p])) := by
                 rw [cellsOf_append, List.length_append]; exact hown1
               have hsz3 := hbel3.size
               clear hown hown1 hgrow1 hbel hsz)
            | (at_builtin; refine wpList_append_own _ rfl (.tmp 33) (.tmp 37) 22 rfl w.heap.size 5 i0 (.int .u8 0) 1 1 Tryz.underlying22 hi hz0 hz1 hz2 rfl (by decide) _ _ _ rfl (hown1'.alloc _) ⟨w3.heap.size, 0, none⟩ 1 1 [Value.int .u8 c.toNat] rfl rfl (by intro q u hq; match q, hq with | 0, hq => (simp at hq; subst hq; simp [Addr.add])) (by intro u hu; simp at hu; subst hu; rfl) (by unfold maxLen; omega) (by omega) (by simp; omega) ?_; intro v4 w4 hown4 hgrow4 _))
          have hbel4 : Below w.heap.size w w4 := Below.grown (hbel3.alloc hsz3 _) hgrow4 (by simp; omega) (fun q hq => (hown1'.lt q hq).1)
          have hown4' : w4.ownsRow w.heap.size 5 1 v4 (o ++ [otb p] ++ [c]).length (cellsOf (o ++ [otb p] ++ [c])) := by
            rw [cellsOf_append, show (o ++ [otb p] ++ [c]).length = (o ++ [otb p]).length + 1 from List.length_append ..]; exact hown4
          clear hown1' hown4 hgrow4 hbel3 hsz3
          go_wp2_with fail
          go_roundw
          case rel => exact ⟨k + 1, by omega, by go_num, by rw [HP2.out], by rw [HN.out]; exact hown4', hbel4⟩
          case measure => simp [intOf]; omega
        · have h4' : ((k : Int) % 4 == 0) = false := by rw [beq_eq_false_iff_ne]; omega
          have hnext : fixR s.data.toList a (k + 1) = o ++ [c] := by rw [fixR, if_neg h4, ← HO.out, HGD.out]
          have HN := Hid.mk hnext
          clear hnext h4
          go_wp2_with (at_builtin; refine wpList_append_own _ rfl (.tmp 33) (.tmp 37) 22 rfl w.heap.size 5 i0 (.int .u8 0) 1 1 Tryz.underlying22 hi hz0 hz1 hz2 rfl (by decide) _ _ _ rfl (hown.alloc _) ⟨wr.heap.size, 0, none⟩ 1 1 [Value.int .u8 c.toNat] rfl rfl (by intro q u hq; match q, hq with | 0, hq => (simp at hq; subst hq; simp [Addr.add])) (by intro u hu; simp at hu; subst hu; rfl) (by unfold maxLen; omega) (by omega) (by simp; omega) ?_; intro v4 w4 hown4 hgrow4 _)
          have hbel4 : Below w.heap.size w w4 := Below.grown (hbel.alloc hsz _) hgrow4 (by simp; omega) (fun q hq => (hown.lt q hq).1)
          have hown4' : w4.ownsRow w.heap.size 5 1 v4 (o ++ [c]).length (cellsOf (o ++ [c])) := by
            rw [cellsOf_append, List.length_append]; exact hown4
          clear hown hown4 hgrow4 hbel hsz
          go_wp2_with fail
          go_roundw
          case rel => exact ⟨k + 1, by omega, by go_num, by rw [HP2.out], by rw [HN.out]; exact hown4', hbel4⟩
          case measure => simp [intOf]; omega
      · have e : k = s.size := by omega
        subst e
        have hfin := HO.out
        subst hfin
        have hcv := convert_own hown
        clear hown
        go_wp2_with fail
        go_ret2
        exact ⟨rfl, hbel⟩
end Bw
end Go.Proofs.YthdhhmflfdbkhaaGreatDoor

/- What frame.fixedPart answers: the count and the sum of a fast frame, with its fixed bits. -/
namespace Go.Proofs.YthdhhmflfdbkhaaGreatDoor
open Go.ChangeShapes Go.WideShapes Go.ChangeAt Go.RowKit
namespace Bw
open Bm Cm

def fixedL (p : List UInt8) (q n : Nat) : List UInt8 := fixL (grayL (q % 8) ++ sumL (endK n) (p ++ grayL (q % 8))) (lastB p)
theorem fastL_fixed (h p : List UInt8) (n : Nat) : fastL h p n = fixedL p (p.length - h.length) n := rfl
theorem fix_lenE (l : List UInt8) (a : UInt8) : ∀ i, (fixR l a i).length = i + (i + 3) / 4
  | 0 => rfl
  | i + 1 => by
    rw [fixR]
    have h := fix_lenE l a i
    split
    · simp [h]; omega
    · simp [h]; omega
theorem fixedL_len (p : List UInt8) (q n : Nat) : (fixedL p q n).length = if 16 < n then 32 else 27 := by
  unfold fixedL fixL
  rw [fix_lenE, List.length_append, sumL_len, (gray_row _ (Nat.mod_lt _ (by omega))).2]
  unfold endK
  split
  · rw [show kS 2 = 21 from rfl]
  · rw [show kS 1 = 17 from rfl]

set_option maxHeartbeats 4000000 in
theorem fixedPart_any (p : ByteArray) (q n : Nat) (w : World) (hR : RulesAt w) (hp1 : 1 ≤ p.size) (hp : p.size ≤ 990) (hrow : rowB p.data.toList = true) (hn : n ≤ 1000) :
    Calls Tryz.prog 54 #[.string p, .int .i64 q, .int .i64 n] w fun e w' => e = .returned (.string ⟨(fixedL p.data.toList q n).toArray⟩) ∧ Below w.heap.size w w' := by
  have hpl : p.data.toList.length = p.size := by simp
  have hm8 : q % 8 < 8 := Nat.mod_lt _ (by omega)
  have hgr := gray_row (q % 8) hm8
  have hco := fun W => countOf_any q W
  unfold fixedL fixL lastB
  rw [hpl]
  have hcl := mk_list (grayL (q % 8))
  generalize grayL (q % 8) = gl at *
  generalize ByteArray.mk gl.toArray = C at *
  have hCs : C.size = 4 := by rw [ba_size hcl, hgr.2]
  obtain ⟨Y, hY⟩ : ∃ Y, Y = p ++ C := ⟨_, rfl⟩
  have hYl : Y.data.toList = p.data.toList ++ gl := by rw [hY, ba_cat, hcl]
  have hYs : Y.size = p.size + 4 := by rw [ba_size hYl, List.length_append, hgr.2, hpl]
  have hYr : rowB Y.data.toList = true := by rw [hYl, rowB_append, hrow, hgr.1]; rfl
  have hYc : checkE Y.data.toList = 0 := checkE_row hYr (by simp; omega)
  have hso := fun W hW => sum_ok (endK n) Y W hW hYc (endK_le n)
  rw [hYl] at hso
  have hsl := mk_list (sumL (endK n) (p.data.toList ++ gl))
  have hsn := sumL_len (endK n) (p.data.toList ++ gl)
  have hsr := sumL_row (endK n) (p.data.toList ++ gl)
  generalize sumL (endK n) (p.data.toList ++ gl) = sl at *
  generalize ByteArray.mk sl.toArray = S at *
  obtain ⟨Z, hZ⟩ : ∃ Z, Z = C ++ S := ⟨_, rfl⟩
  have hZl : Z.data.toList = gl ++ sl := by rw [hZ, ba_cat, hcl, hsl]
  have hk21 := (kinds_ok (endK n) (endK_le n)).2.1
  have hSs : S.size ≤ 21 := by rw [ba_size hsl, hsn]; exact hk21
  have hZs : Z.size = (gl ++ sl).length := ba_size hZl
  have hZr : rowB Z.data.toList = true := by rw [hZl, rowB_append, hgr.1, hsr]; rfl
  have hZc : checkE Z.data.toList = 0 := checkE_row hZr (by rw [hZl, List.length_append, hgr.2, hsn]; omega)
  have hpz : p.size - 1 < p.size := by clear hYs hCs hZs; omega
  have hpi : p[p.size - 1] = p.data.toList.getD (p.size - 1) 0 := at_getD p _ hpz
  have hlb : bit (p.data.toList.getD (p.size - 1) 0) = true := by rw [← hpi]; exact rowB_at hrow _ hpz
  have hfx := fun W => fixed_ok Z (p.data.toList.getD (p.size - 1) 0) W hZc hlb
  rw [hZl, hZs] at hfx
  have HSO := Hid.mk hso
  have HFX := Hid.mk hfx
  have HYE := Hid.mk hY
  have HZE := Hid.mk hZ
  have HR := Hid.mk hR
  have HCO := Hid.mk hco
  have hCm : C.size ≤ 4 := by omega
  have hpe : (1 : Int) ≤ (p.size : Int) := by omega
  have hek : (endK n : Int) = if (16 : Int) < (n : Int) then 2 else 1 := by unfold endK; split <;> split <;> omega
  have hZn := congrArg List.length hZl
  generalize p.data.toList.getD (p.size - 1) 0 = lb at *
  generalize ByteArray.mk (fixR (gl ++ sl) lb (gl ++ sl).length).toArray = FB at *
  clear hpl hgr hcl hCs hYl hYs hYr hYc hso hsl hsn hsr hZl hZs hZr hZc hfx hY hZ hrow hR hco hlb hZn hm8
  by_cases h16 : (16 : Int) < (n : Int)
  · rw [if_pos h16] at hek
    have hs2 := HSO.out
    simp only [hek, HYE.out] at hs2
    have HS2 := Hid.mk hs2
    have hf2 := HFX.out
    simp only [HZE.out] at hf2
    have HF2 := Hid.mk hf2
    clear hek hs2 hf2
    go_enter Tryz.func54, Tryz.ntmps54
    go_wp2_with fail
    refine (HCO.out _).mono ?_
    rintro e w1 ⟨rfl, hb1⟩
    go_wp2_with fail
    refine (HS2.out _ (HR.out.kept hb1)).mono ?_
    rintro e w2 ⟨rfl, hb2⟩
    have hbel2 := bl2 hb1 hb2
    clear hb1 hb2
    go_wp2_with fail
    refine (HF2.out _).mono ?_
    rintro e w3 ⟨rfl, hb3⟩
    have hbel3 := bl2 hbel2 hb3
    clear hbel2 hb3
    go_wp2_with fail
    go_ret
    exact ⟨rfl, hbel3⟩
  · rw [if_neg h16] at hek
    have hs2 := HSO.out
    simp only [hek, HYE.out] at hs2
    have HS2 := Hid.mk hs2
    have hf2 := HFX.out
    simp only [HZE.out] at hf2
    have HF2 := Hid.mk hf2
    clear hek hs2 hf2
    go_enter Tryz.func54, Tryz.ntmps54
    go_wp2_with fail
    refine (HCO.out _).mono ?_
    rintro e w1 ⟨rfl, hb1⟩
    go_wp2_with fail
    refine (HS2.out _ (HR.out.kept hb1)).mono ?_
    rintro e w2 ⟨rfl, hb2⟩
    have hbel2 := bl2 hb1 hb2
    clear hb1 hb2
    go_wp2_with fail
    refine (HF2.out _).mono ?_
    rintro e w3 ⟨rfl, hb3⟩
    have hbel3 := bl2 hbel2 hb3
    clear hbel2 hb3
    go_wp2_with fail
    go_ret
    exact ⟨rfl, hbel3⟩
end Bw
end Go.Proofs.YthdhhmflfdbkhaaGreatDoor

/- What the reader's method readFixed does. -/
namespace Go.Proofs.YthdhhmflfdbkhaaGreatDoor
open Go.ChangeShapes Go.WideShapes Go.ChangeAt Go.RowKit
namespace Bw
open Bm Cm Go.Sort

theorem RulesAt.regrown {w : World} (h : RulesAt w) (d : Nat) (os : Array Obj) : RulesAt (grow (redrawn w d) os) := h.kept (below_regrown w d os)
theorem cell_redrawn {w : World} {a : Addr} {v : Value} (h : w.cell? a = some v) (n : Nat) : (w.drewN n).cell? a = some v := h

set_option maxHeartbeats 8000000 in
theorem readFixed_any (g : Nat) (b : ByteArray) (S : RS) (F : Fd) (n : Nat) (dt : List UInt8) (w : World) (h : RdAt w g b S F) (hR : RulesAt w) (hg : 1 ≠ g) (hd : DataAt w g F.d dt) (hdl : dt.length ≤ 64) (hc : checkE b.data.toList = 0) (hi : Inv b.data.toList S n) (hn : n ≤ 600) (hm : Mst S) (hf : Fed S) :
    Calls Tryz.prog 25 #[.pointer (some ⟨g, 0, none⟩)] w fun e w' =>
      e = .returned (.tuple #[]) ∧ RdAt w' g b (fixedP b.data.toList S dt.length) F ∧ Tch [g] w w' := by
  by_cases h0 : S.fl = 0
  · obtain ⟨h1000, hrow⟩ := small_of_check hc
    have hbl : b.data.toList.length = b.size := by simp
    have hu1 : 1 ≤ S.u := by have := hf h0; have := hi.ou; omega
    have hub : S.u ≤ b.size := by have := hi.u; omega
    have hu9 : S.u ≤ 990 := by have h1 := hi.n; have h2 : 4 * S.u ≤ 5 * S.o.length := hm; omega
    have hou := hi.ou
    obtain ⟨a, len, cap, hdv, hby, -⟩ := hd
    have hlen : dt.length = len := hby.1
    have c9 := h.c9
    rw [hdv] at c9
    -- the row so far
    have hXl : (b.extract 0 S.u).data.toList = b.data.toList.take S.u := by
      have := extract_list b 0 S.u
      rw [Nat.zero_add] at this
      rw [this, List.drop_zero]
    generalize hXX : b.extract 0 S.u = X at *
    have HXX := Hid.mk hXX
    clear hXX
    have hXn : (b.data.toList.take S.u).length = S.u := by rw [List.length_take, hbl]; omega
    have hXs : X.size = S.u := by rw [ba_size hXl, hXn]
    have hXr : rowB X.data.toList = true := by rw [hXl]; exact rowB_take hrow _
    -- what is wanted
    have hfp := fun W hW => fixedPart_any X (S.u - S.o.length) len W hW (by omega) (by omega) hXr (by omega)
    have hfl : fastL S.o (b.data.toList.take S.u) dt.length = fixedL X.data.toList (S.u - S.o.length) len := by rw [fastL_fixed, hXn, hXl, hlen]
    have hfn := fixedL_len X.data.toList (S.u - S.o.length) len
    unfold fixedP
    rw [if_pos h0, hfl]
    have hWl := mk_list (fixedL X.data.toList (S.u - S.o.length) len)
    generalize fixedL X.data.toList (S.u - S.o.length) len = wl at *
    have hwn : wl.length ≤ 32 := by rw [hfn]; split <;> omega
    have hgot := fun W F hW => nextB_any g wl.length b S F W hW h1000 hub (by omega)
    have hGr := nextP_row b.data.toList hrow S wl.length
    have hGn := nextP_len b.data.toList S wl.length
    generalize nextP b.data.toList S wl.length = GG at *
    obtain ⟨gt, S1⟩ := GG
    simp only at hgot hGr hGn ⊢
    have hGl := mk_list gt
    generalize ByteArray.mk gt.toArray = G at *
    generalize ByteArray.mk wl.toArray = WW at *
    have hGs : G.size ≤ 32 := by rw [ba_size hGl]; omega
    have hWs : (WW.size : Int) = (wl.length : Int) := by rw [ba_size hWl]
    have hun := fun W => unfixed_any G W (by omega)
    rw [hGl] at hun
    have hUr := unfixL_row gt 0 hGr
    have hUn := unfixL_len gt 0
    have hUl := mk_list (unfixL gt 0)
    generalize unfixL gt 0 = ul at *
    generalize ByteArray.mk ul.toArray = U at *
    have hUs : U.size = ul.length := ba_size hUl
    have hpz : X.size - 1 < X.size := by omega
    have hpi : X[X.size - 1] = X.data.toList.getD (X.size - 1) 0 := at_getD X _ hpz
    have hlb : bit (X.data.toList.getD (X.size - 1) 0) = true := by rw [← hpi]; exact rowB_at hXr _ hpz
    have hlast : lastB (b.data.toList.take S.u) = X.data.toList.getD (X.size - 1) 0 := by unfold lastB; rw [hXn, hXl, hXs]
    rw [hlast]
    have hfx := fun W => fixed_ok U (X.data.toList.getD (X.size - 1) 0) W (checkE_row (by rw [hUl]; exact hUr) (by rw [hUl]; omega)) hlb
    rw [hUl, hUs] at hfx
    have hfix : fixL ul (X.data.toList.getD (X.size - 1) 0) = fixR ul (X.data.toList.getD (X.size - 1) 0) ul.length := rfl
    rw [hfix]
    generalize X.data.toList.getD (X.size - 1) 0 = lb at *
    have hAl := mk_list (fixR ul lb ul.length)
    generalize fixR ul lb ul.length = al at *
    generalize ByteArray.mk al.toArray = AG at *
    have ne1 := str_ne hGl hAl
    have eq1 := str_eq hGl hAl
    have ne2 := str_ne hGl hWl
    have eq2 := str_eq hGl hWl
    have hfail := fun W x hW => fail_any g b S1 F x W hW
    have hq : ((S.u - S.o.length : Nat) : Int) = (X.size : Int) - ((ByteArray.mk S.o.toArray).size : Int) := by have e := mk_size S.o; omega
    simp only [hq] at hfp
    have hOs := mk_size S.o
    have c0 := h.c0
    have c1 := h.c1
    have c2 := h.c2
    have c3 := h.c3
    rw [h0] at c2
    generalize ByteArray.mk S.o.toArray = O at *
    rw [← hWs] at hgot
    have hOX : (O.size : Int) ≤ (X.size : Int) := by omega
    have hX1 : (1 : Int) ≤ (X.size : Int) := by omega
    have hX2 : (X.size : Int) ≤ 990 := by omega
    have hO2 : (O.size : Int) ≤ 990 := by omega
    have hW2 : (WW.size : Int) ≤ 32 := by omega
    have hl2 : (len : Int) ≤ 64 := by omega
    have HFP := Hid.mk hfp
    have HGOT := Hid.mk hgot
    have HUN := Hid.mk hun
    have HFX := Hid.mk hfx
    have HFAIL := Hid.mk hfail
    have H := Hid.mk h
    have HR := Hid.mk hR
    have HG := Hid.mk hg
    have hui : (S.u : Int) ≤ (b.size : Int) := by omega
    have hu0 : (0 : Int) ≤ (S.u : Int) := by omega
    clear h hR hg hfp hgot hun hfx hfail hXl hXr hXn hfl hfn hWl hwn hGr hGn hGl hUr hUn hUl hlb hlast hfix hAl hq hby hdv hlen hdl hc hi hn hm hf hrow hbl hou hOs hWs hUs hXs
    by_cases h1 : gt = al
    · rw [if_pos h1]
      have q1 : (G.toList != AG.toList) = false := by rw [ne1, h1]; simp
      have q2 : (G.toList == AG.toList) = true := by rw [eq1, h1]; simp
      have q3 : G.toList = AG.toList := by simpa using q2
      by_cases h2 : gt = wl
      · rw [if_pos h2]
        have p1 : (G.toList != WW.toList) = false := by rw [ne2, h2]; simp
        have p2 : (G.toList == WW.toList) = true := by rw [eq2, h2]; simp
        have p3 : G.toList = WW.toList := by simpa using p2
        clear ne1 eq1 ne2 eq2 h1 h2 q1 q3 p1 p3
        go_enter Tryz.func25, Tryz.ntmps25
        go_wp2_with fail
        go_quiet (fail)
        rw [HXX.out]
        obtain ⟨w1, hw1⟩ : ∃ w1, w1 = w.drewN nq := ⟨_, rfl⟩
        have hB1 : Below w.heap.size w w1 := by rw [hw1]; exact ⟨rfl, rfl, rfl, Nat.le_refl _, fun _ _ => rfl⟩
        rw [← hw1]
        have r3 := fun d os => cell_regrown (cell_kept hB1 c3) d os
        have r9 := fun d os => cell_regrown (cell_kept hB1 c9) d os
        have H1 := Hid.mk (H.out.kept hB1)
        have HR1 := Hid.mk (HR.out.kept hB1)
        have T1 := Hid.mk (show Tch [g] w w1 from Tch.of hB1)
        clear hw1 hB1 H HR c0 c1 c2 c3 c9
        go_wp2_with fail
        refine wp_region_quiet_below (by kernel_rfl) (by kernel_rfl) ?_
        set_option maxRecDepth 100000 in
        repeat (go_big_quiet_step ((go_at_call 54; exact Calls.regrown_of (HFP.out _ (HR1.out.regrown _ _)))))
        refine wpQuiet_nil ?_
        intro _ hw'
        obtain ⟨⟨dq, osq⟩, hw''⟩ := hw'
        have hbq := below_regrown w1 dq osq
        rw [hw'']
        generalize grow (redrawn w1 dq) osq = w2 at *
        have H2 := Hid.mk (H1.out.kept hbq)
        have T2 := Hid.mk (T1.out.trans (Tch.of hbq))
        clear r3 r9 hw'' hbq H1 HR1 T1 HFP
        go_wp2_with fail
        refine (HGOT.out _ _ H2.out).mono ?_
        rintro e w3 ⟨rfl, h3, t3⟩
        have H3 := Hid.mk h3
        have T3 := Hid.mk (T2.out.trans t3)
        clear h3 t3 H2 T2 HGOT
        go_wp2_with fail
        refine wp_region_quiet_below (by kernel_rfl) (by kernel_rfl) ?_
        set_option maxRecDepth 100000 in
        repeat (go_big_quiet_step (first
          | (go_at_call 57; exact Calls.regrown_of (HUN.out _))
          | (go_at_call 56; exact Calls.regrown_of (HFX.out _))))
        refine wpQuiet_nil ?_
        intro _ hw'
        obtain ⟨⟨dq, osq⟩, hw''⟩ := hw'
        have hbq := below_regrown w3 dq osq
        rw [hw'']
        generalize grow (redrawn w3 dq) osq = w4 at *
        have H4 := Hid.mk (H3.out.kept hbq)
        have T4 := Hid.mk (T3.out.trans (Tch.of hbq))
        clear hw'' hbq H3 T3 HUN HFX
        go_wp2_with fail
        go_end0
        exact ⟨rfl, H4.out, T4.out⟩
      · rw [if_neg h2]
        have p1 : (G.toList != WW.toList) = true := by rw [ne2]; simp [h2]
        have p2 : (G.toList == WW.toList) = false := by rw [eq2]; simp [h2]
        have p3 : ¬ G.toList = WW.toList := by simpa using p2
        clear ne1 eq1 ne2 eq2 h1 h2 q1 q3 p1 p3
        go_enter Tryz.func25, Tryz.ntmps25
        go_wp2_with fail
        go_quiet (fail)
        rw [HXX.out]
        obtain ⟨w1, hw1⟩ : ∃ w1, w1 = w.drewN nq := ⟨_, rfl⟩
        have hB1 : Below w.heap.size w w1 := by rw [hw1]; exact ⟨rfl, rfl, rfl, Nat.le_refl _, fun _ _ => rfl⟩
        rw [← hw1]
        have r3 := fun d os => cell_regrown (cell_kept hB1 c3) d os
        have r9 := fun d os => cell_regrown (cell_kept hB1 c9) d os
        have H1 := Hid.mk (H.out.kept hB1)
        have HR1 := Hid.mk (HR.out.kept hB1)
        have T1 := Hid.mk (show Tch [g] w w1 from Tch.of hB1)
        clear hw1 hB1 H HR c0 c1 c2 c3 c9
        go_wp2_with fail
        refine wp_region_quiet_below (by kernel_rfl) (by kernel_rfl) ?_
        set_option maxRecDepth 100000 in
        repeat (go_big_quiet_step ((go_at_call 54; exact Calls.regrown_of (HFP.out _ (HR1.out.regrown _ _)))))
        refine wpQuiet_nil ?_
        intro _ hw'
        obtain ⟨⟨dq, osq⟩, hw''⟩ := hw'
        have hbq := below_regrown w1 dq osq
        rw [hw'']
        generalize grow (redrawn w1 dq) osq = w2 at *
        have H2 := Hid.mk (H1.out.kept hbq)
        have T2 := Hid.mk (T1.out.trans (Tch.of hbq))
        clear r3 r9 hw'' hbq H1 HR1 T1 HFP
        go_wp2_with fail
        refine (HGOT.out _ _ H2.out).mono ?_
        rintro e w3 ⟨rfl, h3, t3⟩
        have H3 := Hid.mk h3
        have T3 := Hid.mk (T2.out.trans t3)
        clear h3 t3 H2 T2 HGOT
        go_wp2_with fail
        refine wp_region_quiet_below (by kernel_rfl) (by kernel_rfl) ?_
        set_option maxRecDepth 100000 in
        repeat (go_big_quiet_step (first
          | (go_at_call 57; exact Calls.regrown_of (HUN.out _))
          | (go_at_call 56; exact Calls.regrown_of (HFX.out _))))
        refine wpQuiet_nil ?_
        intro _ hw'
        obtain ⟨⟨dq, osq⟩, hw''⟩ := hw'
        have hbq := below_regrown w3 dq osq
        rw [hw'']
        generalize grow (redrawn w3 dq) osq = w4 at *
        have H4 := Hid.mk (H3.out.kept hbq)
        have T4 := Hid.mk (T3.out.trans (Tch.of hbq))
        clear hw'' hbq H3 T3 HUN HFX
        go_wp2_with fail
        refine (HFAIL.out _ 6 H4.out).mono ?_
        rintro e w5 ⟨rfl, h5, t5⟩
        have H5 := Hid.mk h5
        clear h5
        go_wp2_with fail
        go_end0
        exact ⟨rfl, H5.out, T4.out.trans t5⟩
    · rw [if_neg h1]
      have q1 : (G.toList != AG.toList) = true := by rw [ne1]; simp [h1]
      have q2 : (G.toList == AG.toList) = false := by rw [eq1]; simp [h1]
      have q3 : ¬ G.toList = AG.toList := by simpa using q2
      clear ne1 eq1 ne2 eq2 h1 q1 q3
      go_enter Tryz.func25, Tryz.ntmps25
      go_wp2_with fail
      go_quiet (fail)
      rw [HXX.out]
      obtain ⟨w1, hw1⟩ : ∃ w1, w1 = w.drewN nq := ⟨_, rfl⟩
      have hB1 : Below w.heap.size w w1 := by rw [hw1]; exact ⟨rfl, rfl, rfl, Nat.le_refl _, fun _ _ => rfl⟩
      rw [← hw1]
      have r3 := fun d os => cell_regrown (cell_kept hB1 c3) d os
      have r9 := fun d os => cell_regrown (cell_kept hB1 c9) d os
      have H1 := Hid.mk (H.out.kept hB1)
      have HR1 := Hid.mk (HR.out.kept hB1)
      have T1 := Hid.mk (show Tch [g] w w1 from Tch.of hB1)
      clear hw1 hB1 H HR c0 c1 c2 c3 c9
      go_wp2_with fail
      refine wp_region_quiet_below (by kernel_rfl) (by kernel_rfl) ?_
      set_option maxRecDepth 100000 in
      repeat (go_big_quiet_step ((go_at_call 54; exact Calls.regrown_of (HFP.out _ (HR1.out.regrown _ _)))))
      refine wpQuiet_nil ?_
      intro _ hw'
      obtain ⟨⟨dq, osq⟩, hw''⟩ := hw'
      have hbq := below_regrown w1 dq osq
      rw [hw'']
      generalize grow (redrawn w1 dq) osq = w2 at *
      have H2 := Hid.mk (H1.out.kept hbq)
      have T2 := Hid.mk (T1.out.trans (Tch.of hbq))
      clear r3 r9 hw'' hbq H1 HR1 T1 HFP
      go_wp2_with fail
      refine (HGOT.out _ _ H2.out).mono ?_
      rintro e w3 ⟨rfl, h3, t3⟩
      have H3 := Hid.mk h3
      have T3 := Hid.mk (T2.out.trans t3)
      clear h3 t3 H2 T2 HGOT
      go_wp2_with fail
      refine wp_region_quiet_below (by kernel_rfl) (by kernel_rfl) ?_
      set_option maxRecDepth 100000 in
      repeat (go_big_quiet_step (first
        | (go_at_call 57; exact Calls.regrown_of (HUN.out _))
        | (go_at_call 56; exact Calls.regrown_of (HFX.out _))))
      refine wpQuiet_nil ?_
      intro _ hw'
      obtain ⟨⟨dq, osq⟩, hw''⟩ := hw'
      have hbq := below_regrown w3 dq osq
      rw [hw'']
      generalize grow (redrawn w3 dq) osq = w4 at *
      have H4 := Hid.mk (H3.out.kept hbq)
      have T4 := Hid.mk (T3.out.trans (Tch.of hbq))
      clear hw'' hbq H3 T3 HUN HFX
      go_wp2_with fail
      refine (HFAIL.out _ 5 H4.out).mono ?_
      rintro e w5 ⟨rfl, h5, t5⟩
      have H5 := Hid.mk h5
      clear h5
      go_wp2_with fail
      go_end0
      exact ⟨rfl, H5.out, T4.out.trans t5⟩
  · have hp : fixedP b.data.toList S dt.length = S := by unfold fixedP; rw [if_neg h0]
    rw [hp]
    have c2 := h.c2
    have hnb : (S.fl != 0) = true := by simpa using h0
    have H := Hid.mk h
    clear h hp hR hg hd hdl hc hi hn hm hf
    go_enter Tryz.func25, Tryz.ntmps25
    go_wp2_with fail
    (try simp only [Exit.inBlock, Exit.then]); refine bodyPost_ret (results_none rfl _ _ _) rfl ?_
    exact ⟨rfl, H.out, Tch.refl _ _⟩
end Bw
end Go.Proofs.YthdhhmflfdbkhaaGreatDoor

/- What the row's step tells a walk of a slice of integers that came in, and what that says of bytes. -/
namespace Go.Proofs.YthdhhmflfdbkhaaGreatDoor
open Go.ChangeShapes Go.WideShapes Go.ChangeAt Go.RowKit
namespace Bw
def IsRow (k : IntKind) (w : World) (a : Option Addr) (len cap : Nat) (zs : List Int) : Prop :=
  (a = none ∧ len = 0 ∧ cap = 0 ∧ zs = []) ∨
  ∃ x, a = some x ∧ len ≤ cap ∧ cap ≤ maxLen ∧ zs.length = cap ∧ (∀ i, i < zs.length → w.cell? (x.add i) = some (.int k (zs.getD i 0))) ∧ ∀ n ∈ zs, (Lit.int k n).wf = true

theorem isBytes_of_row {w : World} {a : Option Addr} {len cap : Nat} {zs : List Int} (h : IsRow .u8 w a len cap zs) : ∃ l, IsBytes w a len cap l := by
  rcases h with ⟨rfl, rfl, rfl, rfl⟩ | ⟨x, rfl, hl, hm, hz, hc, hw⟩
  · exact ⟨[], rfl, Nat.le_refl _, Nat.zero_le _, (fun _ => rfl), (fun x hx => by cases hx)⟩
  · refine ⟨(zs.take len).map fun z => UInt8.ofNat z.toNat, by simp; omega, hl, hm, (fun h => by cases h), ?_⟩
    intro y hy i hi
    cases hy
    rw [hc i (by omega)]
    have hi' : i < zs.length := by omega
    have hb : 0 ≤ zs[i] ∧ zs[i] ≤ 255 := by
      have := hw zs[i] (List.getElem_mem _)
      simpa [Lit.wf, IntKind.min, IntKind.max, IntKind.signed, IntKind.bits] using this
    have e1 : zs.getD i 0 = zs[i] := by simp [List.getD, hi']
    have e2 : ((zs.take len).map fun z => UInt8.ofNat z.toNat).getD i 0 = UInt8.ofNat zs[i].toNat := by
      simp [List.getD, hi, hi']
    rw [e1, e2]
    have e3 : (UInt8.ofNat zs[i].toNat).toNat = zs[i].toNat := by
      rw [UInt8.toNat_ofNat']; omega
    rw [e3]
    congr 2
    omega
end Bw
end Go.Proofs.YthdhhmflfdbkhaaGreatDoor

/- A frame that came in as an argument: its six cells, and its bytes. -/
namespace Go.Proofs.YthdhhmflfdbkhaaGreatDoor
open Go.ChangeShapes Go.WideShapes Go.ChangeAt Go.RowKit
namespace Bw

theorem six_cells {l : List Value} (h : l.length = 6) : ∃ c0 c1 c2 c3 c4 c5, l = [c0, c1, c2, c3, c4, c5] := by
  match l, h with
  | [c0, c1, c2, c3, c4, c5], _ => exact ⟨c0, c1, c2, c3, c4, c5, rfl⟩
theorem frame_c : Tryz.prog.cellsOf 24 = 6 := by kernel_rfl
theorem int_c1 : Tryz.prog.cellsOf 3 = 1 := by kernel_rfl
theorem bool_c1 : Tryz.prog.cellsOf 4 = 1 := by kernel_rfl
theorem row_c1 : Tryz.prog.cellsOf 22 = 1 := by kernel_rfl
theorem byte_c1 : Tryz.prog.cellsOf 5 = 1 := by kernel_rfl
/-- the value of a frame -/
def frameV (id : Int) (lo fa re : Bool) (sz : Int) (a : Option Addr) (len cap : Nat) : Value := .agg #[.int .i64 id, .bool lo, .bool fa, .bool re, .int .i64 sz, .slice a len cap]
set_option maxRecDepth 100000 in
theorem open_frame {H : Type} {enc : TypeId × Value → H} {W : World} {base : Nat} {v : Value} {fuel : Nat} {x : DataW H × List MemPlace} (hv : Value.okWide Tryz.prog W .any base 24 v)
    (hf : DataW.trod enc Tryz.prog W 0 (fun _ => true) true fuel 24 v.cells.toList = some x) :
    ∃ id lo fa re sz a len cap zs, v = frameV id lo fa re sz a len cap ∧ (Lit.int .i64 id).wf = true ∧ (Lit.int .i64 sz).wf = true ∧ IsRow .u8 W a len cap zs := by
  obtain ⟨cs, rfl, hcs⟩ := okWide_struct Tryz.underlying24 hv
  rw [frame_c] at hcs
  obtain ⟨xs, n, _, rfl, _, hlen, hF⟩ := DataW.trod_struct Tryz.underlying24 hf
  obtain ⟨c0, c1, c2, c3, c4, c5, hc⟩ := six_cells (l := cs.toList) (by simpa using hcs)
  have hcv : (Value.agg cs).cells.toList = [c0, c1, c2, c3, c4, c5] := hc
  rw [hcv] at hF
  have h6 : xs.length = 6 := hlen
  have g : ∀ i, i < 6 → ∃ y, xs[i]? = some y := fun i hi => ⟨xs[i]'(by omega), List.getElem?_eq_getElem (by omega)⟩
  obtain ⟨y0, e0⟩ := g 0 (by omega)
  obtain ⟨y1, e1⟩ := g 1 (by omega)
  obtain ⟨y2, e2⟩ := g 2 (by omega)
  obtain ⟨y3, e3⟩ := g 3 (by omega)
  obtain ⟨y4, e4⟩ := g 4 (by omega)
  obtain ⟨y5, e5⟩ := g 5 (by omega)
  have f0 := hF 0 _ rfl
  have f1 := hF 1 _ rfl
  have f2 := hF 2 _ rfl
  have f3 := hF 3 _ rfl
  have f4 := hF 4 _ rfl
  have f5 := hF 5 _ rfl
  rw [e0] at f0
  rw [e1] at f1
  rw [e2] at f2
  rw [e3] at f3
  rw [e4] at f4
  rw [e5] at f5
  obtain ⟨id, q0, _, w0⟩ := DataW.trod_int Tryz.underlying3 f0
  obtain ⟨lo, q1, _⟩ := DataW.trod_bool Tryz.underlying4 f1
  obtain ⟨fa, q2, _⟩ := DataW.trod_bool Tryz.underlying4 f2
  obtain ⟨re, q3, _⟩ := DataW.trod_bool Tryz.underlying4 f3
  obtain ⟨sz, q4, _, w4⟩ := DataW.trod_int Tryz.underlying3 f4
  have p0 : ([c0, c1, c2, c3, c4, c5].drop 0).take (Tryz.prog.cellsOf 3) = [.int .i64 id] := q0
  have p1 : ([c0, c1, c2, c3, c4, c5].drop 1).take (Tryz.prog.cellsOf 4) = [.bool lo] := q1
  have p2 : ([c0, c1, c2, c3, c4, c5].drop 2).take (Tryz.prog.cellsOf 4) = [.bool fa] := q2
  have p3 : ([c0, c1, c2, c3, c4, c5].drop 3).take (Tryz.prog.cellsOf 4) = [.bool re] := q3
  have p4 : ([c0, c1, c2, c3, c4, c5].drop 4).take (Tryz.prog.cellsOf 3) = [.int .i64 sz] := q4
  rw [int_c1] at p0 p4
  rw [bool_c1] at p1 p2 p3
  have q0 : c0 = .int .i64 id := by simpa using p0
  have q1 : c1 = .bool lo := by simpa using p1
  have q2 : c2 = .bool fa := by simpa using p2
  have q3 : c3 = .bool re := by simpa using p3
  have q4 : c4 = .int .i64 sz := by simpa using p4
  have hrow : ∃ a len cap zs, c5 = .slice a len cap ∧ IsRow .u8 W a len cap zs := by
    have f5 : DataW.trod enc Tryz.prog W 0 (fun _ => true) true n 22 (([c0, c1, c2, c3, c4, c5].drop 5).take (Tryz.prog.cellsOf 22)) = some y5 := f5
    rw [row_c1] at f5
    have e5 : ([c0, c1, c2, c3, c4, c5].drop 5).take 1 = [c5] := rfl
    rw [e5] at f5
    rcases open_ints Tryz.underlying22 Tryz.underlying5 byte_c1 f5 with ⟨q5, _⟩ | ⟨a, len, cap, zs, q5, _, hl, hm, hz, _, hcell, hw⟩
    · simp only [List.cons.injEq, and_true] at q5
      exact ⟨none, 0, 0, [], q5, .inl ⟨rfl, rfl, rfl, rfl⟩⟩
    · simp only [List.cons.injEq, and_true] at q5
      exact ⟨some a, len, cap, zs, q5, .inr ⟨a, rfl, hl, hm, by simpa using hz, hcell, hw⟩⟩
  obtain ⟨a, len, cap, zs, q5, hr⟩ := hrow
  refine ⟨id, lo, fa, re, sz, a, len, cap, zs, ?_, w0, w4, hr⟩
  unfold frameV
  rw [← q0, ← q1, ← q2, ← q3, ← q4, ← q5]
  congr 1
  apply Array.toList_inj.1
  rw [hc]
end Bw
end Go.Proofs.YthdhhmflfdbkhaaGreatDoor
