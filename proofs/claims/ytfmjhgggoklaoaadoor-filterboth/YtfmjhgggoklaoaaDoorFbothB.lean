/- The law FilterBoth: its walk where all is right. -/
import Derived.Test.YtfmjhgggoklaoaaDoorFbothA
namespace Go.Proofs.YtfmjhgggoklaoaaDoor
open Go.ChangeShapes Go.WideShapes Go.ChangeAt Go.RowKit
namespace Bw
open Bm Cm
theorem gb_step {a b c : World} {row row' : Option Nat} (h : a.grownBy b row) (k : b.grownBy c row') (hr : row' = row ∨ ∃ q, row' = some q ∧ a.heap.size ≤ q) : a.grownBy c row := by
  refine ⟨k.os.trans h.os, k.tape.trans h.tape, k.output.trans h.output, Nat.le_trans h.size k.size, fun i hi hne => ?_⟩
  rw [k.block i (Nat.lt_of_lt_of_le hi h.size) ?_, h.block i hi hne]
  rcases hr with rfl | ⟨q, rfl, hq⟩
  · exact hne
  · intro e
    cases e
    omega
theorem inFK_bound (l : List Fn) (lo : Bool) (n : Nat) : ∀ k, ∀ y ∈ inFK l lo n k, (0 : Int) ≤ y ∧ y < k
  | 0, y, h => by cases h
  | k + 1, y, h => by
    rw [inFK, List.mem_append] at h
    rcases h with h | h
    · have := inFK_bound l lo n k y h
      omega
    · split at h
      · simp at h; omega
      · cases h
theorem nums_at {w : World} {base : Nat} {a : Option Addr} {n c : Nat} {l : List Int} (h : w.ownsRow base 3 1 (.slice a n c) l.length (numC l)) : NumRowAt w a l.length l := by
  obtain ⟨a', cap', hv, hn⟩ := nums_of h
  injection hv with e1 e2 e3
  subst e1
  exact hn
theorem take_snoc (l : List Int) (k : Nat) (h : k < l.length) : l.take (k + 1) = l.take k ++ [l.getD k 0] := by
  rw [List.take_succ_eq_append_getElem h]
  simp [List.getD, h]
theorem getD_memI {l : List Int} {i : Nat} (h : i < l.length) : l.getD i 0 ∈ l := by
  have : l.getD i 0 = l[i] := by simp [List.getD, h]
  rw [this]
  exact List.getElem_mem h
set_option maxHeartbeats 16000000 in
set_option maxRecDepth 100000 in
theorem fboth_ok (a : Option Addr) (na ca : Nat) (la : List Fn) (b : Option Addr) (nb cb : Nat) (lb : List Fn) (id : Nat) (lo fa re : Bool) (sz : Int) (fa0 : Option Addr) (len cap : Nat) (w : World) (hF : IsFils w a na ca (la.map Fn.f)) (hFb : IsFils w b nb cb (lb.map Fn.f)) (hL : LastsAt w) (hS : SizesAt w) (hlen : len ≤ maxLen)
    (hoka : ∀ x ∈ la, okN x) (hokb : ∀ x ∈ lb, okN x) (hn : na + nb ≤ 16) (hG : frEn id lo fa re sz len = 0) (hid : id ≤ topN lo) :
    Calls Tryd.prog 8 #[.slice a na ca, .slice b nb cb, frameV id lo fa re sz fa0 len cap] w fun e w' => e = .returned (.bool true) ∧ Below w.heap.size w w' := by
  obtain ⟨i0, hi, hz0, hz1, hz2⟩ := info_parts info_intF
  have hna : la.length = na := by have := hF.len; simpa using this
  have hnb : lb.length = nb := by have := hFb.len; simpa using this
  have hokc : ∀ x ∈ la ++ lb, okN x := fun x hx => by
    rcases List.mem_append.1 hx with h | h
    · exact hoka x h
    · exact hokb x h
  have hb := below_box w id lo fa re sz fa0 len cap
  have HFR := Hid.mk (FrAt.box w id lo fa re sz fa0 len cap)
  obtain ⟨W0, hW0⟩ : ∃ W0, W0 = w.alloc (frameC id lo fa re sz fa0 len cap) := ⟨_, rfl⟩
  have HW0 : Hid (W0 = w.alloc (.cells #[.int .i64 id, .bool lo, .bool fa, .bool re, .int .i64 sz, .slice fa0 len cap] 25)) := Hid.mk hW0
  rw [← hW0] at hb HFR
  have HB := Hid.mk hb
  have HFI := Hid.mk (fun W (hb : Below w.heap.size w W) => filtered_any W (hL.kept hb))
  have HA := Hid.mk (in_ok a na ca la id lo fa re sz fa0 len cap W0 (hF.kept hb) (hL.kept hb) (hS.kept hb) hlen hoka (by omega) hG hid)
  have HAb := Hid.mk (fun W (hb : Below w.heap.size w W) => in_ok b nb cb lb id lo fa re sz fa0 len cap W (hFb.kept hb) (hL.kept hb) (hS.kept hb) hlen hokb (by omega) hG hid)
  have HAc := Hid.mk (fun x cx W (hX : IsFils W x (na + nb) cx (la.map Fn.f ++ lb.map Fn.f)) (hb : Below w.heap.size w W) => in_ok x (na + nb) cx (la ++ lb) id lo fa re sz fa0 len cap W (by rw [List.map_append]; exact hX) (hL.kept hb) (hS.kept hb) hlen hokc hn hG hid)
  have HN3 := Hid.mk (fun x cx W (hX : IsFils W x (na + nb) cx (la.map Fn.f ++ lb.map Fn.f)) (hb : Below w.heap.size w W) => count_ok x (na + nb) cx (la ++ lb) lo W (by rw [List.map_append]; exact hX) (hL.kept hb) hokc hn)
  have HN1 := Hid.mk (fun W (hb : Below w.heap.size w W) => count_ok a na ca la lo W (hF.kept hb) (hL.kept hb) hoka (by omega))
  have hmono := count_mono la lb lo
  have HF := Hid.mk hF
  have HFb := Hid.mk hFb
  obtain ⟨C1, hC1⟩ : ∃ C1, C1 = countN la lo := ⟨_, rfl⟩
  obtain ⟨C3, hC3⟩ : ∃ C3, C3 = countN (la ++ lb) lo := ⟨_, rfl⟩
  rw [← hC1] at hmono HN1
  rw [← hC3] at hmono HN3
  obtain ⟨xs, hxs⟩ : ∃ xs, xs = inN la lo id := ⟨_, rfl⟩
  obtain ⟨ys, hys⟩ : ∃ ys, ys = inN lb lo id := ⟨_, rfl⟩
  obtain ⟨zs, hzs⟩ : ∃ zs, zs = inN (la ++ lb) lo id := ⟨_, rfl⟩
  have hjoin := in_join la lb lo id
  rw [← hxs, ← hys, ← hzs, hna] at hjoin
  rw [← hxs] at HA
  rw [← hys] at HAb
  rw [← hzs] at HAc
  have hxl : xs.length ≤ 16 := by have := inFK_len la lo id la.length; rw [hxs]; unfold inN; omega
  have hyl : ys.length ≤ 16 := by have := inFK_len lb lo id lb.length; rw [hys]; unfold inN; omega
  have HYB : Hid (∀ y ∈ ys, (0 : Int) ≤ y ∧ y < 17) := Hid.mk (fun y hy => by
    rw [hys] at hy
    have := inFK_bound lb lo id lb.length y hy
    omega)
  have HJ := Hid.mk hjoin
  have hgap : w.heap.size < W0.heap.size := by rw [hW0]; simp
  clear hF hFb hL hS hlen hoka hokb hokc hG hid hb hW0 hC1 hC3 hxs hys hzs hjoin hna hnb
  obtain ⟨k0, k1, k2, k3, k4, k5⟩ := HFR.out
  unfold frameV at HA HAb HAc ⊢
  go_enter Tryd.func8, Tryd.ntmps8
  have HK := Hid.mk HFR.out
  rw [HW0.out] at k0 k1 k2 k3 k4 k5
  go_wp2_with fail
  rw [← HW0.out]
  refine HA.out.mono ?_
  rintro e w1 ⟨v1, rfl, hx1, hb1⟩
  have HX1 := Hid.mk hx1
  have HB01 := Hid.mk hb1
  have HB1 := Hid.mk (bl2 HB.out hb1)
  have HFR1 := Hid.mk (HFR.out.kept hb1)
  clear hb1 hx1 k0 k1 k2 k3 k4 k5 HA
  obtain ⟨k0, k1, k2, k3, k4, k5⟩ := HFR1.out
  go_wp2_with fail
  refine (HAb.out _ HB1.out).mono ?_
  rintro e w2 ⟨v2, rfl, hy2, hb2⟩
  have HX2 := Hid.mk (ownsRow_below HX1.out hb2)
  have HY2 := Hid.mk hy2
  have HB02 := Hid.mk (bl2 HB01.out hb2)
  have HB2 := Hid.mk (bl2 HB1.out hb2)
  have HB12 := Hid.mk hb2
  have HFR2 := Hid.mk (HFR1.out.kept hb2)
  clear hb2 hy2 k0 k1 k2 k3 k4 k5 HAb HB1 HB01 HFR1
  obtain ⟨k0, k1, k2, k3, k4, k5⟩ := HFR2.out
  go_wp2_with fail
  go_cut [11, 12] (fun s11 s12 wx => s12 = .int .i64 0 ∧ Hid (wx.ownsRow w2.heap.size 3 1 s11 zs.length (numC zs)) ∧ Hid (Below w2.heap.size w2 wx))
  case first =>
    have hd2 := adB w2 (.cells #[.slice a na ca, .slice b nb cb] 22)
    have HCA := Hid.mk (concat_any w2.heap.size a na ca _ b nb cb _ _ (TwoAt.new w2 a na ca b nb cb) ((HF.out.kept HB2.out).kept hd2) ((HFb.out.kept HB2.out).kept hd2) (by omega))
    have HD2 := Hid.mk hd2
    clear hd2
    go_region_held3 (fun w' => w'.cell? ⟨w.heap.size, 0, none⟩ = some (.int .i64 id) ∧ w'.cell? ⟨w.heap.size, 1, none⟩ = some (.bool lo) ∧ w'.cell? ⟨w.heap.size, 2, none⟩ = some (.bool fa) ∧ w'.cell? ⟨w.heap.size, 3, none⟩ = some (.bool re) ∧ w'.cell? ⟨w.heap.size, 4, none⟩ = some (.int .i64 sz) ∧ w'.cell? ⟨w.heap.size, 5, none⟩ = some (.slice fa0 len cap))
      (with_reducible first | exact ⟨t0, t1, t2, t3, t4, t5⟩ | exact ⟨u0, u1, u2, u3, u4, u5⟩ | exact kept6 k0 k1 k2 k3 k4 k5 (dwB _) | exact kept6 k0 k1 k2 k3 k4 k5 (adB _ _))
      (first
      | (go_at_call 23; with_reducible refine HCA.out.mono ?_; rintro e w3 ⟨x, cx, rfl, hX, hb3⟩; have HX3 := Hid.mk hX; have HB23 := Hid.mk (bl2 HD2.out hb3); have HB3 := Hid.mk (bl2 HB2.out HB23.out); have HFR3 := Hid.mk (HFR2.out.kept HB23.out); obtain ⟨u0, u1, u2, u3, u4, u5⟩ := HFR3.out; clear hX hb3)
      | (go_at_call 9; with_reducible refine (HAc.out x cx w3 HX3.out HB3.out).mono ?_; rintro e w4 ⟨v3, rfl, hz4, hb4⟩; have HZ4 := Hid.mk (owns_base hz4 HB23.out.size); have HB24 := Hid.mk (bl2 HB23.out hb4); obtain ⟨t0, t1, t2, t3, t4, t5⟩ := HFR3.out.kept hb4; clear hb4 hz4))
    all_goals focus
      go_wp2_with fail
      go_meet
      exact ⟨rfl, HZ4, HB24⟩
  case rest =>
    obtain ⟨rfl, HZc, HBc⟩ := hcut
    have HBwc := Hid.mk (bl2 HB2.out HBc.out)
    go_wp2_with fail
    refine (HFI.out _ HBwc.out).mono ?_
    rintro e w5 ⟨rfl, hb5⟩
    have HX5 := Hid.mk (ownsRow_below (ownsRow_below HX2.out HBc.out) hb5)
    have HY5 := Hid.mk (ownsRow_below (ownsRow_below HY2.out HBc.out) hb5)
    have HZ5 := Hid.mk (ownsRow_below HZc.out hb5)
    have HB05 := Hid.mk (bl2 (bl2 HB02.out HBc.out) hb5)
    have HB5 := Hid.mk (bl2 HBwc.out hb5)
    have HLT : Hid (∀ q, v1.ownBlock = some q → W0.heap.size ≤ q ∧ q < w1.heap.size) := Hid.mk (fun q hq => HX1.out.lt q hq)
    have HS12 := Hid.mk HB12.out.size
    clear hb5 HZc HBc HBwc HX1 HX2 HY2 HB2 HB02 HB12 HFR2 k0 k1 k2 k3 k4 k5 HFI HAc
    obtain ⟨a2, c2, rfl, -⟩ := nums_of HY5.out
    obtain ⟨a3, c3, rfl, -⟩ := nums_of HZ5.out
    obtain ⟨N2, hN2⟩ : ∃ N2, N2 = ys.length := ⟨_, rfl⟩
    obtain ⟨N3, hN3⟩ : ∃ N3, N3 = zs.length := ⟨_, rfl⟩
    rw [← hN2] at hyl ⊢
    rw [← hN3]
    have HN2 := Hid.mk hN2
    have HNN3 := Hid.mk hN3
    clear hN2 hN3
    go_wp2_with fail
    go_loopw [7, 55] (fun v i wr => ∃ k : Nat, k ≤ N2 ∧ i = .int .i64 k ∧ Hid (wr.ownsRow W0.heap.size 3 1 v (xs.length + k) (numC (xs ++ (ys.take k).map (fun i => (na : Int) + i)))) ∧ Hid (w5.grownBy wr v1.ownBlock) ∧ Hid (v.ownBlock = v1.ownBlock ∨ ∃ q, v.ownBlock = some q ∧ w5.heap.size ≤ q)) (fun _ i _ => N2 - (intOf i).toNat)
    case atStart => exact ⟨0, Nat.zero_le _, rfl, Hid.mk (by simpa using HX5.out), Hid.mk ⟨rfl, rfl, rfl, Nat.le_refl _, fun _ _ _ => rfl⟩, Hid.mk (.inl rfl)⟩
    case round =>
      obtain ⟨k, hk, rfl, HX, HGR, HBL⟩ := hrel
      have HFAR : Hid (∀ q, w1.heap.size ≤ q → some q ≠ v1.ownBlock) := Hid.mk (fun q hq e => by
        have := (HLT.out q e.symm).2
        omega)
      by_cases hlt : k < N2
      · have hlt' : (k : Int) < (N2 : Int) := by omega
        have hky : k < ys.length := by rw [← HN2.out]; exact hlt
        have HYr := Hid.mk (owns_beside HY5.out HGR.out (fun q hq => HFAR.out q (HY5.out.lt q hq).1))
        have hnr := nums_at HYr.out
        obtain ⟨Y, rfl⟩ : ∃ Y, a2 = some Y := by
          cases a2 with
          | none => exact absurd (hnr.2.1 rfl) (by omega)
          | some Y => exact ⟨Y, rfl⟩
        have hc := hnr.2.2 Y rfl k hky
        have hyb := HYB.out _ (getD_memI hky)
        have HTK := Hid.mk (take_snoc ys k hky)
        generalize ys.getD k 0 = y at *
        obtain ⟨hy0, hy1⟩ := hyb
        have hxs16 : xs.length + k ≤ 32 := by omega
        have HSZ := Hid.mk (Nat.le_trans HB05.out.size HGR.out.size)
        clear hnr hky
        go_wp2_with (at_builtin; refine wpList_append_two rfl (.tmp 59) (.tmp 64) 26 rfl W0.heap.size 3 i0 (.int .i64 0) 1 8 Tryd.underlying26 hi hz0 hz1 hz2 rfl (by decide) _ _ _ rfl (HX.out.alloc _) ⟨wr.heap.size, 0, none⟩ 1 1 [Value.int .i64 ((na : Int) + y)] rfl rfl (by intro q u hq; match q, hq with | 0, hq => (simp at hq; subst hq; simp [Addr.add])) (by intro u hu; simp at hu; subst hu; rfl) (by decide) (by unfold maxLen; omega) (by omega) (by have := HSZ.out; simp; omega) ?_; intro v6 w6 hown6 hgrow6 hblk6)
        have hgr7 : w5.grownBy w6 v1.ownBlock := gb_step (gb_step HGR.out (World.grownBy_alloc _ _ _) (.inl rfl)) hgrow6 HBL.out
        have hbl7 : v6.ownBlock = v1.ownBlock ∨ ∃ q, v6.ownBlock = some q ∧ w5.heap.size ≤ q := by
          rcases hblk6 with h | h
          · rw [h]; exact HBL.out
          · exact .inr ⟨_, h, by have := HGR.out.size; simp; omega⟩
        have hown7 := hown6
        rw [show numC (xs ++ (ys.take k).map (fun i => (na : Int) + i)) ++ [Value.int .i64 ((na : Int) + y)] = numC (xs ++ (ys.take (k + 1)).map (fun i => (na : Int) + i)) by rw [HTK.out]; simp [numC], Nat.add_assoc] at hown7
        have HO7 := Hid.mk hown7
        have HG7 := Hid.mk hgr7
        have HL7 := Hid.mk hbl7
        clear hown6 hown7 hgr7 hbl7 hgrow6 hblk6
        go_roundw
        case rel => exact ⟨k + 1, by omega, by go_num, HO7, HG7, HL7⟩
        case measure => simp [intOf]; omega
      · have e : k = N2 := by omega
        subst e
        have hx6 := HX.out
        rw [show (ys.take k).map (fun i => (na : Int) + i) = ys.map (fun i => (na : Int) + i) by rw [HN2.out, List.take_length], ← HJ.out, show xs.length + k = zs.length by rw [HJ.out, HN2.out]; simp] at hx6
        have HZr := Hid.mk (owns_beside HZ5.out HGR.out (fun q hq => HFAR.out q (Nat.le_trans HS12.out (HZ5.out.lt q hq).1)))
        have HB06 := Hid.mk (Below.grown HB05.out HGR.out HB05.out.size (fun q hq => (HLT.out q hq).1))
        have HB6 := Hid.mk (bl2 HB.out HB06.out)
        obtain ⟨a1, c1, rfl, hm1⟩ := nums_of hx6
        have HM1 := Hid.mk hm1
        have HM3 := Hid.mk (nums_at HZr.out)
        obtain ⟨_, j1, _, _, _, _⟩ := HK.out.kept HB06.out
        have hz32 : k ≤ 16 := hyl
        have hN3 : zs.length ≤ 32 := by rw [HJ.out]; have := HN2.out; simp; omega
        rw [← HNN3.out] at HM1 HM3 hN3 ⊢
        have HW := Hid.mk HB5.out
        clear hx6 HX HGR HBL HZr HFAR hm1 HY5 HZ5 HX5 HB05 HLT HS12 HYB
        go_wp2_with fail
        go_cut [15, 8] (fun s15 s8 wx => s15 = .int .i64 C3 ∧ s8 = .int .i64 0 ∧ Hid (Below wr.heap.size wr wx))
        case first =>
          have hd2 := adB wr (.cells #[.slice a na ca, .slice b nb cb] 22)
          have HCA := Hid.mk (concat_any wr.heap.size a na ca _ b nb cb _ _ (TwoAt.new wr a na ca b nb cb) ((HF.out.kept HB6.out).kept hd2) ((HFb.out.kept HB6.out).kept hd2) (by omega))
          have HD2 := Hid.mk hd2
          clear hd2
          go_region_held3 (fun w' => w'.cell? ⟨w.heap.size, 1, none⟩ = some (.bool lo))
            (with_reducible first | exact t1 | exact u1 | exact cell_kept (dwB _) j1 | exact cell_kept (adB _ _) j1)
            (first
            | (go_at_call 23; with_reducible refine HCA.out.mono ?_; rintro e w7 ⟨x, cx, rfl, hX, hb7⟩; have HX7 := Hid.mk hX; have HB67 := Hid.mk (bl2 HD2.out hb7); have HB7 := Hid.mk (bl2 HB6.out HB67.out); have u1 := cell_kept HB67.out j1; clear hX hb7)
            | (go_at_call 19; with_reducible refine (HN3.out x cx w7 HX7.out HB7.out).mono ?_; rintro e w8 ⟨rfl, hb8⟩; have HB68 := Hid.mk (bl2 HB67.out hb8); have t1 := cell_kept HB68.out j1; clear hb8))
          all_goals focus
            go_wp2_with fail
            go_meet
            exact ⟨rfl, rfl, HB68⟩
        case rest =>
          obtain ⟨rfl, rfl, HBc⟩ := hcut
          have HBwc := Hid.mk (bl2 HB6.out HBc.out)
          have l1 := cell_kept HBc.out j1
          have hmo : (C1 : Int) ≤ (C3 : Int) := by omega
          go_wp2_with fail
          refine (HN1.out _ HBwc.out).mono ?_
          rintro e w9 ⟨rfl, hb9⟩
          have HB9 := Hid.mk (bl2 HBwc.out hb9)
          have HEQ := Hid.mk (equalI_true w9 a1 a3 N3 c1 c3 zs (by omega) ((HM1.out.kept HBc.out).kept hb9) ((HM3.out.kept HBc.out).kept hb9))
          clear hb9
          go_wp2_with fail
          refine HEQ.out.mono ?_
          rintro e w10 ⟨rfl, hb10⟩
          have HB10 := Hid.mk (bl2 HB9.out hb10)
          clear hb10
          go_wp2_with fail
          go_ret
          exact ⟨rfl, HB10.out⟩
end Bw
end Go.Proofs.YtfmjhgggoklaoaaDoor
