/- What text.Print answers. -/
import Derived.Test.YtlnkhlifkooohaaGreatDoorTxLine
import Derived.Test.YtlnkhlifkooohaaGreatDoorMgAllA
namespace Go.Proofs.YtlnkhlifkooohaaGreatDoor
open Go.ChangeShapes Go.WideShapes Go.ChangeAt Go.RowKit Go.Sort
namespace Bw
open Sm
theorem chkA_ok {l : List MsV} (h : chkA l = 0) : l.length ≤ 20 ∧ ∀ v ∈ l, chkM v.m = 0 := by
  unfold chkA at h
  split at h
  · omega
  · rename_i h1
    refine ⟨by omega, fun v hv => ?_⟩
    obtain ⟨i, hi, rfl⟩ := List.getElem_of_mem hv
    have h2 := firstE_zero h i hi
    unfold allE at h2
    rw [getD_at hi] at h2
    split at h2
    · assumption
    · rename_i h3; exact absurd h2 h3
def msL (l : List MsV) : List Msg := l.map MsV.m
def printE (l : List MsV) : Int := if chkA l ≠ 0 then chkA l else if 4000 < (textT (msL l)).length then 2 else 0
def printS (l : List MsV) : List UInt8 := if printE l = 0 then textT (msL l) else []
theorem text_take (l : List MsV) {k : Nat} (hk : k < l.length) : textT (msL (l.take (k + 1))) = textT (msL (l.take k)) ++ (lineL (wordsM (l.getD k noM).m) ++ sigsT (l.getD k noM).m.sigs) := by
  unfold msL
  rw [List.take_add_one, List.getElem?_eq_getElem hk, getD_at hk]
  simp only [Option.toList, List.map_append, List.map_cons, List.map_nil]
  rw [textT_snoc]
  rfl
theorem sigs_take (l : List Sig) {k : Nat} (hk : k < l.length) : sigsT (l.take (k + 1)) = sigsT (l.take k) ++ lineL (wordsS (l.getD k noS)) := by
  rw [List.take_add_one, List.getElem?_eq_getElem hk, getD_at hk]
  simp only [Option.toList]
  rw [sigsT_snoc]
theorem bA_eq (l : List UInt8) : (⟨l.toArray⟩ : ByteArray) = bA l := rfl
set_option maxHeartbeats 1000000 in
theorem print_bad (a : Option Addr) (n c : Nat) (l : List MsV) (w : World) (hF : IsMsgs w a n c l) (hS : SizesAt w) (hE : chkA l ≠ 0) :
    Calls Tryz.prog 20 #[.slice a n c] w fun e w' => e = .returned (.tuple #[.string (bA (printS l)), .int .i64 (printE l)]) ∧ Below w.heap.size w w' := by
  have HC := Hid.mk (checkAll_any a n c l w hF hS)
  have HR : Hid (printE l = chkA l) := Hid.mk (by unfold printE; rw [if_pos hE])
  have HZ : Hid (printS l = []) := Hid.mk (by unfold printS; rw [HR.out, if_neg hE])
  rw [HR.out, HZ.out]
  have hne : (chkA l != 0) = true := by simpa using hE
  clear hF hS hE HR HZ
  generalize chkA l = E at *
  go_enter Tryz.func20, Tryz.ntmps20
  go_wp2_with fail
  refine HC.out.mono ?_
  rintro e w1 ⟨rfl, hb1⟩
  go_wp2_with fail
  go_ret2
  exact ⟨rfl, hb1⟩
set_option maxHeartbeats 16000000 in
set_option maxRecDepth 100000 in
theorem print_ok (a : Option Addr) (n c : Nat) (l : List MsV) (w : World) (hF : IsMsgs w a n c l) (hS : SizesAt w) (hT : TxT w) (hE : chkA l = 0) :
    Calls Tryz.prog 20 #[.slice a n c] w fun e w' => e = .returned (.tuple #[.string (bA (printS l)), .int .i64 (printE l)]) ∧ Below w.heap.size w w' := by
  obtain ⟨hlen20, hall⟩ := chkA_ok hE
  have hC := checkAll_any a n c l w hF hS
  rw [hE] at hC
  have HC := Hid.mk hC
  have hlen : l.length = n := hF.row.len
  have HMB : Hid (∀ k, k < n → MB (l.getD k noM).m) := Hid.mk (fun k hk => by
    have h1 : k < l.length := by omega
    rw [getD_at h1]
    exact mb_of (chkM_ok (hall _ (List.getElem_mem h1))))
  have HTL : Hid (∀ k, (textT (msL (l.take k))).length ≤ 42000) := Hid.mk (fun k => by
    have h1 := textT_len (l := msL (l.take k)) (fun m hm => by
      unfold msL at hm
      rw [List.mem_map] at hm
      obtain ⟨v, hv, rfl⟩ := hm
      exact mb_of (chkM_ok (hall v (List.mem_of_mem_take hv))))
    have h2 : (msL (l.take k)).length ≤ 20 := by unfold msL; simp; omega
    omega)
  have HTK : Hid (∀ k, k < n → textT (msL (l.take (k + 1))) = textT (msL (l.take k)) ++ (lineL (wordsM (l.getD k noM).m) ++ sigsT (l.getD k noM).m.sigs)) := Hid.mk (fun k hk => text_take l (by omega))
  have HT0 : Hid (textT (msL (l.take 0)) = []) := Hid.mk (by simp [msL, textT])
  have HTN : Hid (textT (msL (l.take n)) = textT (msL l)) := Hid.mk (by rw [← hlen, List.take_length])
  have HPE : Hid (printE l = if 4000 < (textT (msL l)).length then 2 else 0) := Hid.mk (by unfold printE; rw [if_neg (by rw [hE]; simp)])
  have HPS : Hid (printS l = if printE l = 0 then textT (msL l) else []) := Hid.mk rfl
  have HF := Hid.mk (fun W (h : Below w.heap.size w W) => hF.kept h)
  have HTX := Hid.mk (fun W (h : Below w.heap.size w W) => hT.kept h)
  have hn20 : (n : Int) ≤ 20 := by omega
  clear hF hS hT hE hC hall hlen20 hlen
  generalize printE l = PE at *
  generalize printS l = PS at *
  generalize textT (msL l) = TT at *
  generalize hTK : (fun k => textT (msL (l.take k))) = TK at *
  have HTKe : Hid (∀ k, textT (msL (l.take k)) = TK k) := Hid.mk (fun k => by rw [← hTK])
  clear hTK
  simp only [HTKe.out] at HTL HTK HT0 HTN
  clear HTKe
  go_enter Tryz.func20, Tryz.ntmps20
  go_wp2_with fail
  refine HC.out.mono ?_
  rintro e W1 ⟨rfl, hb1⟩
  have HB1 := Hid.mk hb1
  have HBF := Hid.mk (Lib.fresh_isBuilder 103 5 W1)
  have HBA : Hid (Below W1.heap.size W1 (W1.alloc (.cells #[.pointer none, .slice none 0 0] 103))) := Hid.mk (awB1 W1 _)
  clear hb1 HC
  go_wp2_with fail
  obtain ⟨W2, hW2⟩ : ∃ W2, W2 = W1.alloc (.cells #[.pointer none, .slice none 0 0] 103) := ⟨_, rfl⟩
  rw [← hW2] at HBF HBA ⊢
  obtain ⟨b, hb⟩ : ∃ b, b = W1.heap.size := ⟨_, rfl⟩
  rw [← hb] at HBF HBA ⊢
  have HBB : Hid (b = W1.heap.size) := Hid.mk hb
  clear hW2 hb
  go_loopw [17] (fun i wr => ∃ k : Nat, k ≤ n ∧ i = .int .i64 k ∧ Hid (Lib.IsBuilder 103 5 b b (Lib.byteCells (TK k)) wr) ∧ Hid (Below b W1 wr) ∧ Hid (b ≤ wr.heap.size)) (fun i _ => n - (intOf i).toNat)
  case atStart => exact ⟨0, Nat.zero_le _, rfl, by rw [HT0.out]; exact HBF, HBA, Hid.mk (by have := HBA.out.size; rw [HBB.out]; exact this)⟩
  case round =>
    obtain ⟨k, hk, rfl, HBD, HB, HSZ⟩ := hrel
    have HBW : Hid (Below w.heap.size w wr) := Hid.mk (by have h := HB.out; rw [HBB.out] at h; exact bl2 HB1.out h)
    by_cases hlt : k < n
    · have hlt' : (k : Int) < (n : Int) := by omega
      have hRow := HF.out _ HBW.out
      obtain ⟨x, hx⟩ := hRow.row.some hlt
      subst hx
      have hAt := hRow.at hlt
      have HMI := Hid.mk (hRow.each _ (hRow.mem hlt))
      have HSRW := Hid.mk (fun W (h : Below w.heap.size w W) => ((HF.out W h).each _ (hRow.mem hlt)).row)
      have HMk := Hid.mk (HMB.out k hlt)
      have HTk := Hid.mk (HTK.out k hlt)
      have HLk := Hid.mk (HTL.out (k + 1))
      have HTLk := Hid.mk (HTL.out k)
      generalize l.getD k noM = V at *
      have HAL := Hid.mk (awB1 wr (msC V))
      have HMA := Hid.mk (MsAt.box wr V)
      have HHE := Hid.mk (heap_alloc_new wr (msC V))
      have HML := Hid.mk (messageLine_any V _ (HMI.out.kept HAL.out) HMk.out (HTX.out _ (bl2 HBW.out HAL.out)))
      have HBD1 := Hid.mk (bld_kept HBD.out HAL.out)
      have HSIG := Hid.mk HMk.out.sb
      have HLM := Hid.mk (lineM_len HMk.out)
      obtain ⟨XL, hXL⟩ : ∃ XL, XL = lineL (wordsM V.m) := ⟨_, rfl⟩
      rw [← hXL] at HML HTk HLM
      clear hXL
      have HSL : Hid (V.m.sigs.length = V.n) := Hid.mk HMI.out.row.len
      have HM16 : Hid (V.n ≤ 16) := Hid.mk (by have h1 := HMk.out.many; rw [HSL.out] at h1; exact h1)
      clear HMI HMk hRow
      obtain ⟨⟨mid, mlo, mnm, size, mch, sigs⟩, ma, mn, mcap⟩ := V
      unfold msC at HAL HMA HHE HML HBD1
      unfold msV at HML
      obtain ⟨c0, c1, c2, c3, c4, c5⟩ := hAt
      obtain ⟨m0, m1, m2, m3, m4, m5⟩ := HMA.out
      simp only at c0 c1 c2 c3 c4 c5 m0 m1 m2 m3 m4 m5 HAL HMA HHE HML HBD1 HTk HSIG HSL HSRW HM16
      obtain ⟨W3, hW3⟩ : ∃ W3, W3 = wr.alloc (.cells #[.int .i64 mid, .bool mlo, .string mnm, .int .i64 size, .int .i64 mch, .slice ma mn mcap] 24) := ⟨_, rfl⟩
      rw [← hW3] at HAL HMA HHE HML HBD1 m0 m1 m2 m3 m4 m5
      have HW3 := Hid.mk hW3
      clear hW3
      go_wp2_with fail
      rw [← HW3.out]
      refine HML.out.mono ?_
      rintro e w4 ⟨rfl, hb4⟩
      have HB4 := Hid.mk (bl2 HAL.out hb4)
      have HH4 := Hid.mk ((hb4.block _ (lt_of_block HHE.out)).trans HHE.out)
      have HSZ4 : Hid (b ≤ w4.heap.size) := Hid.mk (by have := HB4.out.size; have := HSZ.out; omega)
      have HWR := Hid.mk (bwrite_any b b _ (bA XL) w4 (bld_kept HBD1.out hb4) (by rw [bytes_len, bA_size]; have := HLk.out; rw [HTk.out, List.length_append, List.length_append] at this; omega) HSZ4.out)
      have HNE : Hid (wr.heap.size ≠ b) := Hid.mk (by
        intro e
        have h1 : b < wr.heap.size := by
          rcases HBD.out with h | h
          · exact h.lt
          · exact h.lt
        omega)
      clear hb4 c0 c1 c2 c3 c4 c5 m0 m1 m2 m3 m4 m5 HML
      go_wp2_with fail
      refine HWR.out.mono ?_
      rintro e w5 ⟨rfl, HBD5, HB5, HO5⟩
      have HH5 := Hid.mk ((HO5.out _ _ _ _ HH4.out (by decide) HNE.out).trans HH4.out)
      have d5 := cell_of_row _ _ 5 _ _ _ HH5.out
      simp only [List.getElem?_toArray, List.getElem?_cons_zero, List.getElem?_cons_succ] at d5
      have hBD5 := HBD5.out
      rw [show Lib.strCells (bA XL) = Lib.byteCells XL from str_bytes XL, ← bytes_app] at hBD5
      have HBD6 := Hid.mk hBD5
      have HB6 : Hid (Below b W1 w5) := Hid.mk ((HB.out.trans ⟨HB4.out.os, HB4.out.tape, HB4.out.output, HB4.out.size, fun k hk => HB4.out.block k (by have := HSZ.out; omega)⟩).trans HB5.out)
      have HSZ5 : Hid (b ≤ w5.heap.size) := Hid.mk (by have := HB5.out.size; have := HSZ4.out; omega)
      clear hBD5 HWR HBD5
      go_wp2_with fail
      clear d5 HBD HBD1
      go_loopw [27] (fun j wy => ∃ q : Nat, q ≤ mn ∧ j = .int .i64 q ∧ Hid (Lib.IsBuilder 103 5 b b (Lib.byteCells (TK k ++ XL ++ sigsT (sigs.take q))) wy) ∧ Hid (Below b W1 wy) ∧ Hid (b ≤ wy.heap.size)) (fun j _ => mn - (intOf j).toNat)
      case atStart => exact ⟨0, Nat.zero_le _, rfl, by simpa [sigsT] using HBD6, HB6, HSZ5⟩
      case round =>
        obtain ⟨q, hq, rfl, HBDq, HBq, HSZq⟩ := hrel
        have hmn : (mn : Int) ≤ 16 := by have := HM16.out; omega
        have HBWq : Hid (Below w.heap.size w wr) := Hid.mk (by have h := HBq.out; rw [HBB.out] at h; exact bl2 HB1.out h)
        by_cases hql : q < mn
        · have hql' : (q : Int) < (mn : Int) := by omega
          have hSRq := HSRW.out _ HBWq.out
          obtain ⟨y, hy⟩ := hSRq.some hql
          subst hy
          have hSg := hSRq.at hql
          have HSB := Hid.mk (HSIG.out _ (hSRq.mem hql))
          have HTq : Hid (sigsT (sigs.take (q + 1)) = sigsT (sigs.take q) ++ lineL (wordsS (sigs.getD q noS))) := Hid.mk (sigs_take sigs (by rw [HSL.out]; exact hql))
          have HQL : Hid ((sigsT (sigs.take q)).length ≤ 121 * mn) := Hid.mk (by
            have h1 := sigsT_len (l := sigs.take q) (fun s hs => HSIG.out s (List.mem_of_mem_take hs))
            have h2 : (sigs.take q).length ≤ mn := by rw [List.length_take]; omega
            exact Nat.le_trans h1 (Nat.mul_le_mul_left _ h2))
          generalize sigs.getD q noS = SK at *
          have HBX := Hid.mk (sg_box wr SK)
          have HSL2 := Hid.mk (signalLine_any SK _ HSB.out (HTX.out _ (bl2 HBWq.out HBX.out)))
          have HBD7 := Hid.mk (bld_kept HBDq.out HBX.out)
          have HLS := Hid.mk (lineS_len HSB.out)
          obtain ⟨XS, hXS⟩ : ∃ XS, XS = lineL (wordsS SK) := ⟨_, rfl⟩
          rw [← hXS] at HSL2 HTq HLS
          clear hXS hSRq
          have HSAT := Hid.mk (SgAt.box wr SK)
          obtain ⟨nm, st, sz, bk, sg, mu, di, ad, ky⟩ := SK
          unfold sgC at HBX HSL2 HBD7 HSAT
          unfold sgV at HSL2
          obtain ⟨s0, s1, s2, s3, s4, s5, s6, s7, s8⟩ := hSg
          obtain ⟨t0, t1, t2, t3, t4, t5, t6, t7, t8⟩ := HSAT.out
          simp only at s0 s1 s2 s3 s4 s5 s6 s7 s8 t0 t1 t2 t3 t4 t5 t6 t7 t8 HBX HSL2 HBD7
          obtain ⟨W6, hW6⟩ : ∃ W6, W6 = wr.alloc (.cells #[.string nm, .int .i64 st, .int .i64 sz, .bool bk, .bool sg, .int .i64 mu, .int .i64 di, .int .i64 ad, .int .i64 ky] 42) := ⟨_, rfl⟩
          rw [← hW6] at HBX HSL2 HBD7
          have HW6 := Hid.mk hW6
          clear hW6
          go_wp2_with fail
          rw [← HW6.out]
          refine HSL2.out.mono ?_
          rintro e w7 ⟨rfl, hb7⟩
          have HB7 := Hid.mk (bl2 HBX.out hb7)
          have HSZ7 : Hid (b ≤ w7.heap.size) := Hid.mk (by have := HB7.out.size; have := HSZq.out; omega)
          have HWR := Hid.mk (bwrite_any b b _ (bA XS) w7 (bld_kept HBD7.out hb7) (by rw [bytes_len, bA_size, List.length_append, List.length_append]; have := HTLk.out; have := HLM.out; have := HQL.out; have := HLS.out; have := HM16.out; omega) HSZ7.out)
          clear hb7 s0 s1 s2 s3 s4 s5 s6 s7 s8 t0 t1 t2 t3 t4 t5 t6 t7 t8 HSL2
          go_wp2_with fail
          refine HWR.out.mono ?_
          rintro e w8 ⟨rfl, HBD8, HB8, HO8⟩
          have hBD8 := HBD8.out
          rw [show Lib.strCells (bA XS) = Lib.byteCells XS from str_bytes XS, ← bytes_app, List.append_assoc (TK k ++ XL), ← HTq.out] at hBD8
          have HBD9 := Hid.mk hBD8
          have HB9 : Hid (Below b W1 w8) := Hid.mk ((HBq.out.trans ⟨HB7.out.os, HB7.out.tape, HB7.out.output, HB7.out.size, fun k hk => HB7.out.block k (by have := HSZq.out; omega)⟩).trans HB8.out)
          have HSZ9 : Hid (b ≤ w8.heap.size) := Hid.mk (by have := HB8.out.size; have := HSZ7.out; omega)
          clear hBD8 HWR HBD8 HO8
          go_wp2_with fail
          go_roundw
          case rel => exact ⟨q + 1, by omega, by go_num, HBD9, HB9, HSZ9⟩
          case measure => simp [intOf]; omega
        · have e : q = mn := by omega
          subst e
          have hBDe := HBDq.out
          rw [List.take_of_length_le (by rw [HSL.out]; exact Nat.le_refl _), List.append_assoc, ← HTk.out] at hBDe
          have HBDe := Hid.mk hBDe
          clear hBDe
          go_wp2_with fail
          go_roundw
          case rel => exact ⟨k + 1, by omega, by go_num, HBDe, HBq, HSZq⟩
          case measure => simp [intOf]; omega
    · have e : k = n := by omega
      subst e
      have hBDe := HBD.out
      rw [HTN.out] at hBDe
      have HLN := Hid.mk (Tryz.Builder_Len b b _ wr hBDe)
      rw [bytes_len] at HLN
      have HST := Hid.mk (Tryz.Builder_String_any b b TT wr hBDe HSZ.out)
      rw [bA_eq] at HST
      have hTT : TT.length ≤ 42000 := by rw [← HTN.out]; exact HTL.out k
      have hTT' : (TT.length : Int) ≤ 42000 := by omega
      clear hBDe
      by_cases hbig : 4000 < TT.length
      · have hbig' : (4000 : Int) < (TT.length : Int) := by omega
        have HP1 : Hid (PE = 2) := Hid.mk (by rw [HPE.out, if_pos hbig])
        have HP2 : Hid (PS = []) := Hid.mk (by rw [HPS.out, HP1.out, if_neg (by decide)])
        go_wp2_with fail
        refine HLN.out.mono ?_
        rintro e w2 ⟨rfl, hw2⟩
        subst hw2
        go_wp2_with fail
        go_ret2
        exact ⟨by rw [HP1.out, HP2.out]; rfl, HBW.out⟩
      · have hbig' : ¬ ((4000 : Int) < (TT.length : Int)) := by omega
        have HP1 : Hid (PE = 0) := Hid.mk (by rw [HPE.out, if_neg hbig])
        have HP2 : Hid (PS = TT) := Hid.mk (by rw [HPS.out, HP1.out, if_pos rfl])
        go_wp2_with fail
        refine HLN.out.mono ?_
        rintro e w2 ⟨rfl, hw2⟩
        subst hw2
        go_wp2_with fail
        refine HST.out.mono ?_
        rintro e w3 ⟨rfl, hb3⟩
        have HB3 : Hid (Below w.heap.size w w3) := Hid.mk (by have h := HB.out.trans hb3; rw [HBB.out] at h; exact bl2 HB1.out h)
        clear hb3
        go_wp2_with fail
        go_ret2
        exact ⟨by rw [HP1.out, HP2.out]; rfl, HB3.out⟩
theorem print_any (a : Option Addr) (n c : Nat) (l : List MsV) (w : World) (hF : IsMsgs w a n c l) (hS : SizesAt w) (hT : TxT w) :
    Calls Tryz.prog 20 #[.slice a n c] w fun e w' => e = .returned (.tuple #[.string (bA (printS l)), .int .i64 (printE l)]) ∧ Below w.heap.size w w' := by
  by_cases hE : chkA l = 0
  · exact print_ok a n c l w hF hS hT hE
  · exact print_bad a n c l w hF hS hE
end Bw
end Go.Proofs.YtlnkhlifkooohaaGreatDoor
