/- The law PartLost. -/
import Derived.Test.YtljigcmhkjbhjaaPtAnewLaw
namespace Go.Proofs.Ytljigcmhkjbhjaa
open Go.ChangeShapes Go.WideShapes Go.ChangeAt Go.RowKit
namespace Bw
open Bm
set_option linter.unusedVariables false
/-- a part too far on -/
theorem getX_lost {l : List UInt8} {k : Nat} (hk : k + 1 < nxN l.length) (h3 : l.length ≤ 300) :
    getX (gX 0 l k).want (gX 0 l k).next (gX 0 l k).block (gX 0 l k).left (gX 0 l k).dt ((partsL l).getD (k + 2) []) = badX 14 := by
  obtain ⟨h7, hat⟩ := nx_lt (show k < nxN l.length by omega)
  obtain ⟨-, hat2⟩ := nx_lt hk
  rw [parts_next hk]
  have hgx : gX 0 l k = ⟨(l.length : Nat), ((k + 1) % 16 : Nat), (0 : Nat), (gLf 0 k : Nat), l.take (6 + 7 * k), ansL 0 k, [], 0⟩ := by
    unfold gX
    rw [if_pos (by omega)]
  rw [hgx]
  simp only
  have hE := gtE_mid (b := 0) (l := l) (k := k) (by omega) (by omega) h3
  have hnl := npL_len l (6 + 7 * (k + 1))
  have hg : ((npL l (6 + 7 * (k + 1))).getD 0 0).toNat = 32 + (k + 1 + 1) % 16 := by
    unfold npL
    rw [getD_head, numN_at, toN (by omega)]
  unfold getX
  rw [if_neg (by rw [hE]; simp), if_neg (by omega), if_neg (by omega), hg, if_neg (by omega), if_neg (by omega), if_pos (by omega)]
  unfold nextX
  rw [hg, if_neg (by omega), if_pos (by omega)]
set_option maxHeartbeats 4000000 in
set_option maxRecDepth 100000 in
theorem plost_split (b : Option Addr) (m mc : Nat) (lost : Int) (w : World) (hm : m ≤ maxLen) (hE : szP m ≠ 0) :
    Calls Try.prog 7 #[.slice b m mc, .int .i64 lost] w fun e w' => e = .returned (.bool true) ∧ Below w.heap.size w w' := by
  have HSP := Hid.mk (fun W => split_bad b m mc W hm hE)
  have hPT := fun W => parted_any W
  have hne : (szP m != 0) = true := by simpa using hE
  clear hm hE
  generalize szP m = E at *
  go_enter Try.func7, Try.ntmps7
  go_wp2_with fail
  refine (HSP.out _).mono ?_
  rintro e w1 ⟨rfl, hw1⟩
  rw [hw1]
  clear hw1 HSP
  go_wp2_with fail
  refine (hPT _).mono ?_
  rintro e w2 ⟨rfl, hb2⟩
  have HB2 := Hid.mk hb2
  clear hb2
  go_wp2_with fail
  refine (hPT _).mono ?_
  rintro e w3 ⟨rfl, hb3⟩
  have HB3 := Hid.mk (bl2 HB2.out hb3)
  clear hb3 HB2
  go_wp2_with fail
  go_ret
  exact ⟨rfl, HB3.out⟩
set_option maxHeartbeats 4000000 in
set_option maxRecDepth 100000 in
theorem plost_few (x : Addr) (m mc : Nat) (l : List UInt8) (lost : Int) (w : World) (hD : IsBytes w (some x) m mc l) (h1 : 1 ≤ m) (h3 : m ≤ 300) (hf : 1 + nxN m < 3) :
    Calls Try.prog 7 #[.slice (some x) m mc, .int .i64 lost] w fun e w' => e = .returned (.bool true) ∧ Below w.heap.size w w' := by
  have HSP := Hid.mk (split_at x m mc l w hD h1 h3)
  have hPT := fun W => parted_any W
  obtain ⟨NP, hNP⟩ : ∃ NP, NP = 1 + nxN m := ⟨_, rfl⟩
  rw [← hNP] at HSP hf
  have hf' : (NP : Int) < 3 := by omega
  clear hD hNP
  go_enter Try.func7, Try.ntmps7
  go_wp2_with fail
  refine HSP.out.mono ?_
  rintro e w1 ⟨gx, c, rfl, -, hb1⟩
  have HB1 := Hid.mk hb1
  clear hb1 HSP
  go_wp2_with fail
  refine (hPT _).mono ?_
  rintro e w2 ⟨rfl, hb2⟩
  have HB2 := Hid.mk (bl2 HB1.out hb2)
  clear hb2 HB1
  go_wp2_with fail
  refine (hPT _).mono ?_
  rintro e w3 ⟨rfl, hb3⟩
  have HB3 := Hid.mk (bl2 HB2.out hb3)
  clear hb3 HB2
  go_wp2_with fail
  go_ret
  exact ⟨rfl, HB3.out⟩
set_option maxHeartbeats 8000000 in
set_option maxRecDepth 100000 in
theorem plost_in (x : Addr) (m mc : Nat) (l : List UInt8) (lost : Int) (w : World) (hD : IsBytes w (some x) m mc l) (h1 : 1 ≤ m) (h3 : m ≤ 300) (hf : 3 ≤ 1 + nxN m) (ls : Nat) (hls : 1 ≤ ls ∧ ls < nxN m) (hlo : lost = (ls : Int)) :
    Calls Try.prog 7 #[.slice (some x) m mc, .int .i64 lost] w fun e w' => e = .returned (.bool true) ∧ Below w.heap.size w w' := by
  have hll : l.length = m := hD.1
  have HSP := Hid.mk (split_at x m mc l w hD h1 h3)
  have hPT := fun W => parted_any W
  have HF : Hid (getX 0 0 0 0 [] (fpL l) = gX 0 l 0) := Hid.mk (getX_first (b := 0) (gtE_yes ⟨by omega, by omega⟩ ⟨by omega, by omega⟩ ⟨by omega, by omega⟩ ⟨by omega, by omega⟩ rfl) (by omega) (by omega))
  obtain ⟨K, hK⟩ : ∃ K, K = nxN m := ⟨_, rfl⟩
  have hK42 : K ≤ 42 := by rw [hK]; exact nx_le m h3
  rw [← hK] at HSP hf hls
  obtain ⟨NP, hNP⟩ : ∃ NP, NP = 1 + K := ⟨_, rfl⟩
  rw [← hNP] at HSP
  have hf' : ¬ ((NP : Int) < 3) := by omega
  have hNm : (NP : Int) - 1 = (K : Int) := by omega
  have hNPb : (NP : Int) ≤ 43 := by omega
  have HNP := Hid.mk hNP
  have HK : Hid (K = nxN l.length) := Hid.mk (by rw [hll]; exact hK)
  have HL3 : Hid (l.length ≤ 300) := Hid.mk (by omega)
  obtain ⟨hl1, hl2⟩ := hls
  subst hlo
  have hlo1 : ¬ ((ls : Int) < 1) := by omega
  have hlo2 : ¬ ((K : Int) ≤ (ls : Int)) := by omega
  have hlsb : (ls : Int) ≤ 42 := by omega
  clear hD hK hll hNP h1 h3
  go_enter Try.func7, Try.ntmps7
  go_wp2_with fail
  refine HSP.out.mono ?_
  rintro e w1 ⟨gx, c, rfl, hp1, hb1⟩
  have HB1 := Hid.mk hb1
  have HP1 := Hid.mk hp1
  clear hb1 HSP hp1
  go_wp2_with fail
  refine (hPT _).mono ?_
  rintro e w2 ⟨rfl, hb2⟩
  have HB2 := Hid.mk (bl2 HB1.out hb2)
  have HP2 := Hid.mk (HP1.out.kept hb2)
  have HR2 := Hid.mk (Row5.new w2 44 (.int .i64 0) (.slice none 0 0) (.int .i64 0) (.int .i64 0) (.int .i64 0))
  have HA2 := Hid.mk (awG w2 (.cells #[.int .i64 0, .slice none 0 0, .int .i64 0, .int .i64 0, .int .i64 0] 44))
  clear hb2 HB1 HP1
  go_wp2_with fail
  generalize w2.alloc (.cells #[.int .i64 0, .slice none 0 0, .int .i64 0, .int .i64 0, .int .i64 0] 44) = W3 at *
  go_loopw [43] (fun i wr => ∃ (k : Nat) (w0 x0 b0 l0 : Int) (o : Option Addr) (q qc : Nat) (d0 : List UInt8), k ≤ ls + 1 ∧ i = .int .i64 k ∧ Hid (Row5 wr w2.heap.size 44 (.int .i64 w0) (.slice o q qc) (.int .i64 x0) (.int .i64 b0) (.int .i64 l0)) ∧ Hid (FarB w2.heap.size w2.heap.size wr o q qc d0) ∧ Hid (k ≤ ls → getX w0 x0 b0 l0 d0 ((partsL l).getD k []) = gX 0 l k) ∧ Hid (ls ≤ k → getX w0 x0 b0 l0 d0 ((partsL l).getD (ls + 1) []) = badX 14) ∧ Hid (Below w2.heap.size w2 wr)) (fun i _ => ls + 2 - (intOf i).toNat)
  case atStart => exact ⟨0, 0, 0, 0, 0, none, 0, 0, [], Nat.zero_le _, rfl, HR2, Hid.mk ⟨⟨rfl, Nat.le_refl _, Nat.zero_le _, fun _ => rfl, fun y hy => by cases hy⟩, fun h0 => by omega⟩, Hid.mk (fun _ => by rw [parts_first]; exact HF.out), Hid.mk (fun h => by omega), HA2⟩
  case round =>
    obtain ⟨k, w0, x0, bk, l0, o, q, qc, d0, hk, rfl, HR, HF0, HX, HY, HBl⟩ := hrel
    have hkN : k < NP := by have := HNP.out; omega
    have hkN' : (k : Int) < (NP : Int) := by omega
    obtain ⟨y, d, z, hc, hY, -⟩ := (HP2.out.kept HBl.out).2 k hkN
    by_cases hlt : k < ls
    · have HGT := Hid.mk (get_any w0 o q qc x0 bk l0 (some y) z d d0 _ wr HF0.out.1 hY)
      rw [HX.out (by omega)] at HGT
      have HXE := Hid.mk (gX_e 0 l k)
      obtain ⟨g0, g1, g2, g3, g4⟩ := HR.out.cells
      have HRL := Hid.mk HR.out.lt
      unfold gtV at HGT
      have hkK : k < nxN l.length := by rw [← HK.out]; omega
      have hgx : gX 0 l k = ⟨(l.length : Nat), ((k + 1) % 16 : Nat), (0 : Nat), (gLf 0 k : Nat), l.take (6 + 7 * k), ansL 0 k, [], 0⟩ := by
        unfold gX
        rw [if_pos hkK]
      have HNX : Hid (getX (gX 0 l k).want (gX 0 l k).next (gX 0 l k).block (gX 0 l k).left (gX 0 l k).dt ((partsL l).getD (k + 1) []) = gX 0 l (k + 1)) := Hid.mk (by
        rw [parts_next hkK, hgx]
        exact getX_next (by omega) hkK HL3.out)
      have HNY : Hid (k + 1 = ls → getX (gX 0 l k).want (gX 0 l k).next (gX 0 l k).block (gX 0 l k).left (gX 0 l k).dt ((partsL l).getD (ls + 1) []) = badX 14) := Hid.mk (by
        intro h
        have h0 := getX_lost (l := l) (k := k) (by rw [← HK.out]; omega) HL3.out
        rw [show k + 2 = ls + 1 by omega] at h0
        exact h0)
      have HWH : Hid ((gX 0 l k).whole = []) := Hid.mk (by rw [hgx])
      have hkl : ((k : Int) == (ls : Int)) = false := by simp; omega
      have HKK := Hid.mk hlt
      clear hgx hY HX HY hkK
      generalize gX 0 l k = X at *
      go_wp2_with fail
      refine HGT.out.mono ?_
      rintro e w5 ⟨o1, n1, e1, o2, n2, e2, o3, n3, e3, rfl, hf1, hf2, hf3, hwn, hb5'⟩
      have ho3 := hwn HWH.out
      subst ho3
      rw [HXE.out]
      unfold gtV
      have hnn := fun W => neqP W none n3 e3
      simp only [Option.isNone_none, Bool.not_true] at hnn
      obtain ⟨xw, xn, xb, xl, xd, xa, xh, xe⟩ := X
      simp only at *
      have hba := awG w5 (.cells #[.int .i64 xw, .slice o1 n1 e1, .int .i64 xn, .int .i64 xb, .int .i64 xl] 44)
      have hbb := bl2 hb5' hba
      obtain ⟨x0', x1', x2', x3', x4'⟩ := (Row5.new w5 44 (.int .i64 xw) (.slice o1 n1 e1) (.int .i64 xn) (.int .i64 xb) (.int .i64 xl)).cells
      obtain ⟨⟨z0, z1, z2, z3, z4⟩, ⟨y0, y1, y2, y3, y4⟩, ⟨p1, q1⟩, ⟨p2, q2⟩, ⟨p3, q3⟩, ⟨p4, q4⟩, hSX⟩ := (HR.out.kept hbb).ready (.int .i64 xw) (.slice o1 n1 e1) (.int .i64 xn) (.int .i64 xb) (.int .i64 xl)
      have HSX := Hid.mk hSX
      have HF5 := Hid.mk (((hf1.far (gs := w2.heap.size) (gg := w2.heap.size) HRL.out (Or.inl HRL.out)).kept hba).setS (.int .i64 xw) (.slice o1 n1 e1) (.int .i64 xn) (.int .i64 xb) (.int .i64 xl))
      have HB5 := Hid.mk (set5_below (HBl.out.trans (hbb.mono HBl.out.size)) (Nat.le_refl w2.heap.size) (.int .i64 xw) (.slice o1 n1 e1) (.int .i64 xn) (.int .i64 xb) (.int .i64 xl))
      unfold set5 at HSX HF5 HB5
      clear hf1 hf2 hf3 hwn hb5' hba hbb hSX HR HF0 HBl hc g0 g1 g2 g3 g4 HGT
      go_wp2_with fail
      go_roundw
      case rel => exact ⟨k + 1, xw, xn, xb, xl, o1, n1, e1, xd, by have := HKK.out; omega, int_eq (by omega), HSX, HF5, Hid.mk (fun _ => HNX.out), Hid.mk (fun h => HNY.out (by have := HKK.out; omega)), HB5⟩
      case measure => have := HKK.out; simp [intOf]; omega
    · by_cases heq : k = ls
      · have hkl : ((k : Int) == (ls : Int)) = true := by simp; omega
        have HKK := Hid.mk heq
        clear hY heq hlt
        go_wp2_with fail
        go_roundw
        case rel => exact ⟨k + 1, w0, x0, bk, l0, o, q, qc, d0, by have := HKK.out; omega, int_eq (by omega), HR, HF0, Hid.mk (fun h => by have := HKK.out; omega), Hid.mk (fun h => HY.out (by have := HKK.out; omega)), HBl⟩
        case measure => have := HKK.out; simp [intOf]; omega
      · have hk1 : k = ls + 1 := by omega
        have HGT := Hid.mk (get_any w0 o q qc x0 bk l0 (some y) z d d0 _ wr HF0.out.1 hY)
        rw [hk1, HY.out (by omega)] at HGT
        have hkl : ((k : Int) == (ls : Int)) = false := by simp; omega
        have hkl1 : ((k : Int) == (ls : Int) + 1) = true := by simp; omega
        obtain ⟨g0, g1, g2, g3, g4⟩ := HR.out.cells
        have HBw := Hid.mk (bl2 HB2.out HBl.out)
        unfold gtV at HGT
        clear hY hk1 heq hlt HX HY HF0 HR HBl
        go_wp2_with fail
        refine HGT.out.mono ?_
        rintro e w5 ⟨o1, n1, e1, o2, n2, e2, o3, n3, e3, rfl, hf1, hf2, hf3, hwn, hb5'⟩
        have ho3 := hwn rfl
        subst ho3
        have hnn := fun W => neqP W none n3 e3
        simp only [Option.isNone_none, Bool.not_true] at hnn
        unfold gtV
        unfold badX at *
        simp only at *
        have HB5 := Hid.mk (bl2 (bl2 HBw.out hb5') (awG w5 (.cells #[.int .i64 0, .slice o1 n1 e1, .int .i64 0, .int .i64 0, .int .i64 0] 44)))
        clear hf1 hf2 hf3 hwn hb5' HBw HGT
        go_wp2_with fail
        go_ret
        exact ⟨by first | rfl | simp, HB5.out⟩
set_option maxHeartbeats 8000000 in
set_option maxRecDepth 100000 in
theorem plost_low (x : Addr) (m mc : Nat) (l : List UInt8) (lost : Int) (w : World) (hD : IsBytes w (some x) m mc l) (h1 : 1 ≤ m) (h3 : m ≤ 300) (hf : 3 ≤ 1 + nxN m) (hlo : lost < 1) :
    Calls Try.prog 7 #[.slice (some x) m mc, .int .i64 lost] w fun e w' => e = .returned (.bool true) ∧ Below w.heap.size w w' := by
  have hll : l.length = m := hD.1
  have HSP := Hid.mk (split_at x m mc l w hD h1 h3)
  have hPT := fun W => parted_any W
  have HF : Hid (getX 0 0 0 0 [] (fpL l) = gX 0 l 0) := Hid.mk (getX_first (b := 0) (gtE_yes ⟨by omega, by omega⟩ ⟨by omega, by omega⟩ ⟨by omega, by omega⟩ ⟨by omega, by omega⟩ rfl) (by omega) (by omega))
  obtain ⟨K, hK⟩ : ∃ K, K = nxN m := ⟨_, rfl⟩
  have hK42 : K ≤ 42 := by rw [hK]; exact nx_le m h3
  rw [← hK] at HSP hf
  obtain ⟨NP, hNP⟩ : ∃ NP, NP = 1 + K := ⟨_, rfl⟩
  rw [← hNP] at HSP
  have hf' : ¬ ((NP : Int) < 3) := by omega
  have hNm : (NP : Int) - 1 = (K : Int) := by omega
  have hNPb : (NP : Int) ≤ 43 := by omega
  have HNP := Hid.mk hNP
  have HK : Hid (K = nxN l.length) := Hid.mk (by rw [hll]; exact hK)
  have HL3 : Hid (l.length ≤ 300) := Hid.mk (by omega)
  clear hD hK hll hNP h1 h3
  go_enter Try.func7, Try.ntmps7
  go_wp2_with fail
  refine HSP.out.mono ?_
  rintro e w1 ⟨gx, c, rfl, hp1, hb1⟩
  have HB1 := Hid.mk hb1
  have HP1 := Hid.mk hp1
  clear hb1 HSP hp1
  go_wp2_with fail
  refine (hPT _).mono ?_
  rintro e w2 ⟨rfl, hb2⟩
  have HB2 := Hid.mk (bl2 HB1.out hb2)
  have HP2 := Hid.mk (HP1.out.kept hb2)
  have HR2 := Hid.mk (Row5.new w2 44 (.int .i64 0) (.slice none 0 0) (.int .i64 0) (.int .i64 0) (.int .i64 0))
  have HA2 := Hid.mk (awG w2 (.cells #[.int .i64 0, .slice none 0 0, .int .i64 0, .int .i64 0, .int .i64 0] 44))
  clear hb2 HB1 HP1
  go_wp2_with fail
  generalize w2.alloc (.cells #[.int .i64 0, .slice none 0 0, .int .i64 0, .int .i64 0, .int .i64 0] 44) = W3 at *
  go_loopw [43] (fun i wr => ∃ (k : Nat) (w0 x0 b0 l0 : Int) (o : Option Addr) (q qc : Nat) (d0 : List UInt8), k ≤ 2 ∧ i = .int .i64 k ∧ Hid (Row5 wr w2.heap.size 44 (.int .i64 w0) (.slice o q qc) (.int .i64 x0) (.int .i64 b0) (.int .i64 l0)) ∧ Hid (FarB w2.heap.size w2.heap.size wr o q qc d0) ∧ Hid (k ≤ 1 → getX w0 x0 b0 l0 d0 ((partsL l).getD k []) = gX 0 l k) ∧ Hid (1 ≤ k → getX w0 x0 b0 l0 d0 ((partsL l).getD (2) []) = badX 14) ∧ Hid (Below w2.heap.size w2 wr)) (fun i _ => 3 - (intOf i).toNat)
  case atStart => exact ⟨0, 0, 0, 0, 0, none, 0, 0, [], Nat.zero_le _, rfl, HR2, Hid.mk ⟨⟨rfl, Nat.le_refl _, Nat.zero_le _, fun _ => rfl, fun y hy => by cases hy⟩, fun h0 => by omega⟩, Hid.mk (fun _ => by rw [parts_first]; exact HF.out), Hid.mk (fun h => by omega), HA2⟩
  case round =>
    obtain ⟨k, w0, x0, bk, l0, o, q, qc, d0, hk, rfl, HR, HF0, HX, HY, HBl⟩ := hrel
    have hkN : k < NP := by have := HNP.out; omega
    have hkN' : (k : Int) < (NP : Int) := by omega
    obtain ⟨y, d, z, hc, hY, -⟩ := (HP2.out.kept HBl.out).2 k hkN
    by_cases hlt : k < 1
    · have HGT := Hid.mk (get_any w0 o q qc x0 bk l0 (some y) z d d0 _ wr HF0.out.1 hY)
      rw [HX.out (by omega)] at HGT
      have HXE := Hid.mk (gX_e 0 l k)
      obtain ⟨g0, g1, g2, g3, g4⟩ := HR.out.cells
      have HRL := Hid.mk HR.out.lt
      unfold gtV at HGT
      have hkK : k < nxN l.length := by rw [← HK.out]; omega
      have hgx : gX 0 l k = ⟨(l.length : Nat), ((k + 1) % 16 : Nat), (0 : Nat), (gLf 0 k : Nat), l.take (6 + 7 * k), ansL 0 k, [], 0⟩ := by
        unfold gX
        rw [if_pos hkK]
      have HNX : Hid (getX (gX 0 l k).want (gX 0 l k).next (gX 0 l k).block (gX 0 l k).left (gX 0 l k).dt ((partsL l).getD (k + 1) []) = gX 0 l (k + 1)) := Hid.mk (by
        rw [parts_next hkK, hgx]
        exact getX_next (by omega) hkK HL3.out)
      have HNY : Hid (k + 1 = 1 → getX (gX 0 l k).want (gX 0 l k).next (gX 0 l k).block (gX 0 l k).left (gX 0 l k).dt ((partsL l).getD (2) []) = badX 14) := Hid.mk (by
        intro h
        have h0 := getX_lost (l := l) (k := k) (by rw [← HK.out]; omega) HL3.out
        rw [show k + 2 = 2 by omega] at h0
        exact h0)
      have HWH : Hid ((gX 0 l k).whole = []) := Hid.mk (by rw [hgx])
      have hkl : ((k : Int) == 1) = false := by simp; omega
      have HKK := Hid.mk hlt
      clear hgx hY HX HY hkK
      generalize gX 0 l k = X at *
      go_wp2_with fail
      refine HGT.out.mono ?_
      rintro e w5 ⟨o1, n1, e1, o2, n2, e2, o3, n3, e3, rfl, hf1, hf2, hf3, hwn, hb5'⟩
      have ho3 := hwn HWH.out
      subst ho3
      rw [HXE.out]
      unfold gtV
      have hnn := fun W => neqP W none n3 e3
      simp only [Option.isNone_none, Bool.not_true] at hnn
      obtain ⟨xw, xn, xb, xl, xd, xa, xh, xe⟩ := X
      simp only at *
      have hba := awG w5 (.cells #[.int .i64 xw, .slice o1 n1 e1, .int .i64 xn, .int .i64 xb, .int .i64 xl] 44)
      have hbb := bl2 hb5' hba
      obtain ⟨x0', x1', x2', x3', x4'⟩ := (Row5.new w5 44 (.int .i64 xw) (.slice o1 n1 e1) (.int .i64 xn) (.int .i64 xb) (.int .i64 xl)).cells
      obtain ⟨⟨z0, z1, z2, z3, z4⟩, ⟨y0, y1, y2, y3, y4⟩, ⟨p1, q1⟩, ⟨p2, q2⟩, ⟨p3, q3⟩, ⟨p4, q4⟩, hSX⟩ := (HR.out.kept hbb).ready (.int .i64 xw) (.slice o1 n1 e1) (.int .i64 xn) (.int .i64 xb) (.int .i64 xl)
      have HSX := Hid.mk hSX
      have HF5 := Hid.mk (((hf1.far (gs := w2.heap.size) (gg := w2.heap.size) HRL.out (Or.inl HRL.out)).kept hba).setS (.int .i64 xw) (.slice o1 n1 e1) (.int .i64 xn) (.int .i64 xb) (.int .i64 xl))
      have HB5 := Hid.mk (set5_below (HBl.out.trans (hbb.mono HBl.out.size)) (Nat.le_refl w2.heap.size) (.int .i64 xw) (.slice o1 n1 e1) (.int .i64 xn) (.int .i64 xb) (.int .i64 xl))
      unfold set5 at HSX HF5 HB5
      clear hf1 hf2 hf3 hwn hb5' hba hbb hSX HR HF0 HBl hc g0 g1 g2 g3 g4 HGT
      go_wp2_with fail
      go_roundw
      case rel => exact ⟨k + 1, xw, xn, xb, xl, o1, n1, e1, xd, by have := HKK.out; omega, int_eq (by omega), HSX, HF5, Hid.mk (fun _ => HNX.out), Hid.mk (fun h => HNY.out (by have := HKK.out; omega)), HB5⟩
      case measure => have := HKK.out; simp [intOf]; omega
    · by_cases heq : k = 1
      · have hkl : ((k : Int) == 1) = true := by simp; omega
        have HKK := Hid.mk heq
        clear hY heq hlt
        go_wp2_with fail
        go_roundw
        case rel => exact ⟨k + 1, w0, x0, bk, l0, o, q, qc, d0, by have := HKK.out; omega, int_eq (by omega), HR, HF0, Hid.mk (fun h => by have := HKK.out; omega), Hid.mk (fun h => HY.out (by have := HKK.out; omega)), HBl⟩
        case measure => have := HKK.out; simp [intOf]; omega
      · have hk1 : k = 2 := by omega
        have HGT := Hid.mk (get_any w0 o q qc x0 bk l0 (some y) z d d0 _ wr HF0.out.1 hY)
        rw [hk1, HY.out (by omega)] at HGT
        have hkl : ((k : Int) == 1) = false := by simp; omega
        have hkl1 : ((k : Int) == 2) = true := by simp; omega
        obtain ⟨g0, g1, g2, g3, g4⟩ := HR.out.cells
        have HBw := Hid.mk (bl2 HB2.out HBl.out)
        unfold gtV at HGT
        clear hY hk1 heq hlt HX HY HF0 HR HBl
        go_wp2_with fail
        refine HGT.out.mono ?_
        rintro e w5 ⟨o1, n1, e1, o2, n2, e2, o3, n3, e3, rfl, hf1, hf2, hf3, hwn, hb5'⟩
        have ho3 := hwn rfl
        subst ho3
        have hnn := fun W => neqP W none n3 e3
        simp only [Option.isNone_none, Bool.not_true] at hnn
        unfold gtV
        unfold badX at *
        simp only at *
        have HB5 := Hid.mk (bl2 (bl2 HBw.out hb5') (awG w5 (.cells #[.int .i64 0, .slice o1 n1 e1, .int .i64 0, .int .i64 0, .int .i64 0] 44)))
        clear hf1 hf2 hf3 hwn hb5' HBw HGT
        go_wp2_with fail
        go_ret
        exact ⟨by first | rfl | simp, HB5.out⟩
set_option maxHeartbeats 8000000 in
set_option maxRecDepth 100000 in
theorem plost_high (x : Addr) (m mc : Nat) (l : List UInt8) (lost : Int) (w : World) (hD : IsBytes w (some x) m mc l) (h1 : 1 ≤ m) (h3 : m ≤ 300) (hf : 3 ≤ 1 + nxN m) (hlo : ¬ lost < 1) (hhi : ((nxN m : Nat) : Int) ≤ lost) :
    Calls Try.prog 7 #[.slice (some x) m mc, .int .i64 lost] w fun e w' => e = .returned (.bool true) ∧ Below w.heap.size w w' := by
  have hll : l.length = m := hD.1
  have HSP := Hid.mk (split_at x m mc l w hD h1 h3)
  have hPT := fun W => parted_any W
  have HF : Hid (getX 0 0 0 0 [] (fpL l) = gX 0 l 0) := Hid.mk (getX_first (b := 0) (gtE_yes ⟨by omega, by omega⟩ ⟨by omega, by omega⟩ ⟨by omega, by omega⟩ ⟨by omega, by omega⟩ rfl) (by omega) (by omega))
  obtain ⟨K, hK⟩ : ∃ K, K = nxN m := ⟨_, rfl⟩
  have hK42 : K ≤ 42 := by rw [hK]; exact nx_le m h3
  rw [← hK] at HSP hf hhi
  obtain ⟨NP, hNP⟩ : ∃ NP, NP = 1 + K := ⟨_, rfl⟩
  rw [← hNP] at HSP
  have hf' : ¬ ((NP : Int) < 3) := by omega
  have hNm : (NP : Int) - 1 = (K : Int) := by omega
  have hNPb : (NP : Int) ≤ 43 := by omega
  have HNP := Hid.mk hNP
  have HK : Hid (K = nxN l.length) := Hid.mk (by rw [hll]; exact hK)
  have HL3 : Hid (l.length ≤ 300) := Hid.mk (by omega)
  clear hD hK hll hNP h1 h3
  go_enter Try.func7, Try.ntmps7
  go_wp2_with fail
  refine HSP.out.mono ?_
  rintro e w1 ⟨gx, c, rfl, hp1, hb1⟩
  have HB1 := Hid.mk hb1
  have HP1 := Hid.mk hp1
  clear hb1 HSP hp1
  go_wp2_with fail
  refine (hPT _).mono ?_
  rintro e w2 ⟨rfl, hb2⟩
  have HB2 := Hid.mk (bl2 HB1.out hb2)
  have HP2 := Hid.mk (HP1.out.kept hb2)
  have HR2 := Hid.mk (Row5.new w2 44 (.int .i64 0) (.slice none 0 0) (.int .i64 0) (.int .i64 0) (.int .i64 0))
  have HA2 := Hid.mk (awG w2 (.cells #[.int .i64 0, .slice none 0 0, .int .i64 0, .int .i64 0, .int .i64 0] 44))
  clear hb2 HB1 HP1
  go_wp2_with fail
  generalize w2.alloc (.cells #[.int .i64 0, .slice none 0 0, .int .i64 0, .int .i64 0, .int .i64 0] 44) = W3 at *
  go_loopw [43] (fun i wr => ∃ (k : Nat) (w0 x0 b0 l0 : Int) (o : Option Addr) (q qc : Nat) (d0 : List UInt8), k ≤ 2 ∧ i = .int .i64 k ∧ Hid (Row5 wr w2.heap.size 44 (.int .i64 w0) (.slice o q qc) (.int .i64 x0) (.int .i64 b0) (.int .i64 l0)) ∧ Hid (FarB w2.heap.size w2.heap.size wr o q qc d0) ∧ Hid (k ≤ 1 → getX w0 x0 b0 l0 d0 ((partsL l).getD k []) = gX 0 l k) ∧ Hid (1 ≤ k → getX w0 x0 b0 l0 d0 ((partsL l).getD (2) []) = badX 14) ∧ Hid (Below w2.heap.size w2 wr)) (fun i _ => 3 - (intOf i).toNat)
  case atStart => exact ⟨0, 0, 0, 0, 0, none, 0, 0, [], Nat.zero_le _, rfl, HR2, Hid.mk ⟨⟨rfl, Nat.le_refl _, Nat.zero_le _, fun _ => rfl, fun y hy => by cases hy⟩, fun h0 => by omega⟩, Hid.mk (fun _ => by rw [parts_first]; exact HF.out), Hid.mk (fun h => by omega), HA2⟩
  case round =>
    obtain ⟨k, w0, x0, bk, l0, o, q, qc, d0, hk, rfl, HR, HF0, HX, HY, HBl⟩ := hrel
    have hkN : k < NP := by have := HNP.out; omega
    have hkN' : (k : Int) < (NP : Int) := by omega
    obtain ⟨y, d, z, hc, hY, -⟩ := (HP2.out.kept HBl.out).2 k hkN
    by_cases hlt : k < 1
    · have HGT := Hid.mk (get_any w0 o q qc x0 bk l0 (some y) z d d0 _ wr HF0.out.1 hY)
      rw [HX.out (by omega)] at HGT
      have HXE := Hid.mk (gX_e 0 l k)
      obtain ⟨g0, g1, g2, g3, g4⟩ := HR.out.cells
      have HRL := Hid.mk HR.out.lt
      unfold gtV at HGT
      have hkK : k < nxN l.length := by rw [← HK.out]; omega
      have hgx : gX 0 l k = ⟨(l.length : Nat), ((k + 1) % 16 : Nat), (0 : Nat), (gLf 0 k : Nat), l.take (6 + 7 * k), ansL 0 k, [], 0⟩ := by
        unfold gX
        rw [if_pos hkK]
      have HNX : Hid (getX (gX 0 l k).want (gX 0 l k).next (gX 0 l k).block (gX 0 l k).left (gX 0 l k).dt ((partsL l).getD (k + 1) []) = gX 0 l (k + 1)) := Hid.mk (by
        rw [parts_next hkK, hgx]
        exact getX_next (by omega) hkK HL3.out)
      have HNY : Hid (k + 1 = 1 → getX (gX 0 l k).want (gX 0 l k).next (gX 0 l k).block (gX 0 l k).left (gX 0 l k).dt ((partsL l).getD (2) []) = badX 14) := Hid.mk (by
        intro h
        have h0 := getX_lost (l := l) (k := k) (by rw [← HK.out]; omega) HL3.out
        rw [show k + 2 = 2 by omega] at h0
        exact h0)
      have HWH : Hid ((gX 0 l k).whole = []) := Hid.mk (by rw [hgx])
      have hkl : ((k : Int) == 1) = false := by simp; omega
      have HKK := Hid.mk hlt
      clear hgx hY HX HY hkK
      generalize gX 0 l k = X at *
      go_wp2_with fail
      refine HGT.out.mono ?_
      rintro e w5 ⟨o1, n1, e1, o2, n2, e2, o3, n3, e3, rfl, hf1, hf2, hf3, hwn, hb5'⟩
      have ho3 := hwn HWH.out
      subst ho3
      rw [HXE.out]
      unfold gtV
      have hnn := fun W => neqP W none n3 e3
      simp only [Option.isNone_none, Bool.not_true] at hnn
      obtain ⟨xw, xn, xb, xl, xd, xa, xh, xe⟩ := X
      simp only at *
      have hba := awG w5 (.cells #[.int .i64 xw, .slice o1 n1 e1, .int .i64 xn, .int .i64 xb, .int .i64 xl] 44)
      have hbb := bl2 hb5' hba
      obtain ⟨x0', x1', x2', x3', x4'⟩ := (Row5.new w5 44 (.int .i64 xw) (.slice o1 n1 e1) (.int .i64 xn) (.int .i64 xb) (.int .i64 xl)).cells
      obtain ⟨⟨z0, z1, z2, z3, z4⟩, ⟨y0, y1, y2, y3, y4⟩, ⟨p1, q1⟩, ⟨p2, q2⟩, ⟨p3, q3⟩, ⟨p4, q4⟩, hSX⟩ := (HR.out.kept hbb).ready (.int .i64 xw) (.slice o1 n1 e1) (.int .i64 xn) (.int .i64 xb) (.int .i64 xl)
      have HSX := Hid.mk hSX
      have HF5 := Hid.mk (((hf1.far (gs := w2.heap.size) (gg := w2.heap.size) HRL.out (Or.inl HRL.out)).kept hba).setS (.int .i64 xw) (.slice o1 n1 e1) (.int .i64 xn) (.int .i64 xb) (.int .i64 xl))
      have HB5 := Hid.mk (set5_below (HBl.out.trans (hbb.mono HBl.out.size)) (Nat.le_refl w2.heap.size) (.int .i64 xw) (.slice o1 n1 e1) (.int .i64 xn) (.int .i64 xb) (.int .i64 xl))
      unfold set5 at HSX HF5 HB5
      clear hf1 hf2 hf3 hwn hb5' hba hbb hSX HR HF0 HBl hc g0 g1 g2 g3 g4 HGT
      go_wp2_with fail
      go_roundw
      case rel => exact ⟨k + 1, xw, xn, xb, xl, o1, n1, e1, xd, by have := HKK.out; omega, int_eq (by omega), HSX, HF5, Hid.mk (fun _ => HNX.out), Hid.mk (fun h => HNY.out (by have := HKK.out; omega)), HB5⟩
      case measure => have := HKK.out; simp [intOf]; omega
    · by_cases heq : k = 1
      · have hkl : ((k : Int) == 1) = true := by simp; omega
        have HKK := Hid.mk heq
        clear hY heq hlt
        go_wp2_with fail
        go_roundw
        case rel => exact ⟨k + 1, w0, x0, bk, l0, o, q, qc, d0, by have := HKK.out; omega, int_eq (by omega), HR, HF0, Hid.mk (fun h => by have := HKK.out; omega), Hid.mk (fun h => HY.out (by have := HKK.out; omega)), HBl⟩
        case measure => have := HKK.out; simp [intOf]; omega
      · have hk1 : k = 2 := by omega
        have HGT := Hid.mk (get_any w0 o q qc x0 bk l0 (some y) z d d0 _ wr HF0.out.1 hY)
        rw [hk1, HY.out (by omega)] at HGT
        have hkl : ((k : Int) == 1) = false := by simp; omega
        have hkl1 : ((k : Int) == 2) = true := by simp; omega
        obtain ⟨g0, g1, g2, g3, g4⟩ := HR.out.cells
        have HBw := Hid.mk (bl2 HB2.out HBl.out)
        unfold gtV at HGT
        clear hY hk1 heq hlt HX HY HF0 HR HBl
        go_wp2_with fail
        refine HGT.out.mono ?_
        rintro e w5 ⟨o1, n1, e1, o2, n2, e2, o3, n3, e3, rfl, hf1, hf2, hf3, hwn, hb5'⟩
        have ho3 := hwn rfl
        subst ho3
        have hnn := fun W => neqP W none n3 e3
        simp only [Option.isNone_none, Bool.not_true] at hnn
        unfold gtV
        unfold badX at *
        simp only at *
        have HB5 := Hid.mk (bl2 (bl2 HBw.out hb5') (awG w5 (.cells #[.int .i64 0, .slice o1 n1 e1, .int .i64 0, .int .i64 0, .int .i64 0] 44)))
        clear hf1 hf2 hf3 hwn hb5' HBw HGT
        go_wp2_with fail
        go_ret
        exact ⟨by first | rfl | simp, HB5.out⟩
theorem plost_any (b : Option Addr) (m mc : Nat) (l : List UInt8) (lost : Int) (w : World) (hl : IsBytes w b m mc l) :
    Calls Try.prog 7 #[.slice b m mc, .int .i64 lost] w fun e w' => e = .returned (.bool true) ∧ Below w.heap.size w w' := by
  by_cases hS : szP m = 0
  · have hn := szP_ok hS
    cases b with
    | none => have := hl.2.2.2.1 rfl; omega
    | some x =>
      by_cases hf : 1 + nxN m < 3
      · exact plost_few x m mc l lost w hl hn.1 hn.2 hf
      · by_cases hlo : lost < 1
        · exact plost_low x m mc l lost w hl hn.1 hn.2 (by omega) hlo
        · by_cases hhi : ((nxN m : Nat) : Int) ≤ lost
          · exact plost_high x m mc l lost w hl hn.1 hn.2 (by omega) hlo hhi
          · exact plost_in x m mc l lost w hl hn.1 hn.2 (by omega) lost.toNat ⟨by omega, by omega⟩ (by omega)
  · exact plost_split b m mc lost w (Nat.le_trans hl.2.1 hl.2.2.1) hS
end Bw
end Go.Proofs.Ytljigcmhkjbhjaa
