/- The law PartAnew. -/
import Derived.Test.YtgjnfmbmndnihaaPtLed
namespace Go.Proofs.Ytgjnfmbmndnihaa
open Go.ChangeShapes Go.WideShapes Go.ChangeAt Go.RowKit
namespace Bw
open Bm
set_option linter.unusedVariables false
theorem neqP (w : World) (a : Option Addr) (n c : Nat) : (binOp .neq 22 (.slice a n c) (.slice none 0 0)).run Try.prog w = .ok (.bool (!a.isNone)) w := by
  simp only [binOp]
  simp [Op.equal, Op.maxDepth, Lib.run_equalIn_slice_nil w 9999 22 5 a n c 0 0 Try.underlying22]
theorem split_at (x : Addr) (len cap : Nat) (l : List UInt8) (w : World) (hD : IsBytes w (some x) len cap l) (h1 : 1 ≤ len) (h3 : len ≤ 300) :
    Calls Try.prog 9 #[.slice (some x) len cap] w fun e w' => ∃ (gx : Addr) (c : Nat), e = .returned (.tuple #[.slice (some gx) (1 + nxN len) c, .int .i64 0]) ∧ PtsF w' gx (1 + nxN len) (partsL l) w.heap.size ∧ Below w.heap.size w w' := by
  refine (split_ok x len cap l w hD h1 h3).mono ?_
  rintro e w' ⟨g, c, n, rfl, rfl, -, -, hp, hb⟩
  exact ⟨_, c, rfl, hp, hb⟩
set_option maxHeartbeats 4000000 in
set_option maxRecDepth 100000 in
theorem panew_split (want : Int) (a : Option Addr) (n cap : Nat) (next block left : Int) (b : Option Addr) (m mc : Nat) (w : World) (hm : m ≤ maxLen) (hE : szP m ≠ 0) :
    Calls Try.prog 8 #[gtV want a n cap next block left, .slice b m mc] w fun e w' => e = .returned (.bool true) ∧ Below w.heap.size w w' := by
  have HSP := Hid.mk (fun W => split_bad b m mc W hm hE)
  have hPT := fun W => parted_any W
  have hne : (szP m != 0) = true := by simpa using hE
  have HB := Hid.mk (awG w (gtC want a n cap next block left))
  unfold gtC at HB
  unfold gtV
  clear hm hE
  generalize szP m = E at *
  go_enter Try.func8, Try.ntmps8
  go_wp2_with fail
  refine (HSP.out _).mono ?_
  rintro e w1 ⟨rfl, hw1⟩
  rw [hw1]
  clear hw1 HSP
  go_wp2_with fail
  refine (hPT _).mono ?_
  rintro e w2 ⟨rfl, hb2⟩
  have HB2 := Hid.mk (bl2 HB.out hb2)
  clear hb2 HB
  go_wp2_with fail
  refine (hPT _).mono ?_
  rintro e w3 ⟨rfl, hb3⟩
  have HB3 := Hid.mk (bl2 HB2.out hb3)
  clear hb3 HB2
  go_wp2_with fail
  go_ret
  exact ⟨rfl, HB3.out⟩
set_option maxHeartbeats 4000000 in
set_option maxRecDepth 100000 in
theorem panew_bad (want : Int) (a : Option Addr) (n cap : Nat) (next block left : Int) (x : Addr) (m mc : Nat) (l : List UInt8) (w : World) (hl : n ≤ maxLen) (hD : IsBytes w (some x) m mc l) (h1 : 1 ≤ m) (h3 : m ≤ 300) (hE : gtE n want next block left ≠ 0) :
    Calls Try.prog 8 #[gtV want a n cap next block left, .slice (some x) m mc] w fun e w' => e = .returned (.bool true) ∧ Below w.heap.size w w' := by
  have hB0 := awG w (gtC want a n cap next block left)
  have HSP := Hid.mk (split_at x m mc l _ (isBytes_below hD hB0) h1 h3)
  have HCK := Hid.mk (fun W => checkGetter_any a n cap want next block left W hl)
  have hPT := fun W => parted_any W
  have hne : (gtE n want next block left != 0) = true := by simpa using hE
  have HB := Hid.mk hB0
  have HR := Hid.mk (Row5.new w 44 (.int .i64 want) (.slice a n cap) (.int .i64 next) (.int .i64 block) (.int .i64 left))
  unfold gtC at HB HSP
  unfold gtV at HCK ⊢
  clear hl hE hD hB0
  generalize gtE n want next block left = E at *
  generalize 1 + nxN m = NP at *
  go_enter Try.func8, Try.ntmps8
  go_wp2_with fail
  refine HSP.out.mono ?_
  rintro e w1 ⟨gx, c, rfl, -, hb1⟩
  have HB1 := Hid.mk (bl2 HB.out hb1)
  have HR1 := Hid.mk (HR.out.kept hb1)
  clear hb1 HSP HB HR
  go_wp2_with fail
  refine (hPT _).mono ?_
  rintro e w2 ⟨rfl, hb2⟩
  have HB2 := Hid.mk (bl2 HB1.out hb2)
  obtain ⟨a0, a1, a2, a3, a4⟩ := (HR1.out.kept hb2).cells
  clear hb2 HB1 HR1
  go_wp2_with fail
  refine (HCK.out _).mono ?_
  rintro e w3 ⟨rfl, hb3⟩
  have HB3 := Hid.mk (bl2 HB2.out hb3)
  clear hb3 HB2 HCK a0 a1 a2 a3 a4
  go_wp2_with fail
  refine (hPT _).mono ?_
  rintro e w4 ⟨rfl, hb4⟩
  have HB4 := Hid.mk (bl2 HB3.out hb4)
  clear hb4 HB3
  go_wp2_with fail
  go_ret
  exact ⟨rfl, HB4.out⟩
theorem parts_next {l : List UInt8} {i : Nat} (h : i < nxN l.length) : (partsL l).getD (i + 1) [] = npL l (6 + 7 * i) := by
  unfold partsL
  rw [List.getD_cons_succ]
  simp [List.getD, h]
theorem parts_first (l : List UInt8) : (partsL l).getD 0 [] = fpL l := rfl
theorem PtsF.far {w : World} {gx : Addr} {n : Nat} {L : List (List UInt8)} {B : Nat} (h : PtsF w gx n L B) {g : Nat} (hg : g < B) (a b c d e : Value) : PtsF (set5 w g a b c d e) gx n L B := by
  refine ⟨h.1, fun k hk => ?_⟩
  obtain ⟨y, dd, z, h1, h2, h3⟩ := h.2 k hk
  have hgx := h.1
  have hblk : (gx.add k).block = gx.block := by unfold Addr.add; split <;> rfl
  refine ⟨y, dd, z, ?_, isBytes_set5 h2 (by omega) _ _ _ _ _, h3⟩
  unfold set5
  rw [cell_ne (by omega), cell_ne (by omega), cell_ne (by omega), cell_ne (by omega), cell_ne (by omega)]
  exact h1
set_option maxHeartbeats 8000000 in
set_option maxRecDepth 100000 in
theorem panew_ok (want : Int) (a : Option Addr) (n cap : Nat) (next block left : Int) (dt : List UInt8) (x : Addr) (m mc : Nat) (l : List UInt8) (w : World) (hG : IsBytes w a n cap dt) (hD : IsBytes w (some x) m mc l) (h1 : 1 ≤ m) (h3 : m ≤ 300) (hE : gtE n want next block left = 0) :
    Calls Try.prog 8 #[gtV want a n cap next block left, .slice (some x) m mc] w fun e w' => e = .returned (.bool true) ∧ Below w.heap.size w w' := by
  have hll : l.length = m := hD.1
  have hB0 := awG w (gtC want a n cap next block left)
  have HSP := Hid.mk (split_at x m mc l _ (isBytes_below hD hB0) h1 h3)
  have HCK := Hid.mk (fun W => checkGetter_any a n cap want next block left W (Nat.le_trans hG.2.1 hG.2.2.1))
  rw [hE] at HCK
  have hPT := fun W => parted_any W
  have HB := Hid.mk hB0
  have HR := Hid.mk (Row5.new w 44 (.int .i64 want) (.slice a n cap) (.int .i64 next) (.int .i64 block) (.int .i64 left))
  obtain ⟨b, hb⟩ : ∃ b : Nat, block = (b : Int) := ⟨block.toNat, by have := (gtE_ok hE).1.2.1; omega⟩
  have hb5 : b ≤ 255 := by have := (gtE_ok hE).1.2.1; omega
  have HF : Hid (getX want next block left dt (fpL l) = gX b l 0) := Hid.mk (by
    have hdl := hG.1
    subst hdl
    subst hb
    exact getX_first hE (by omega) (by omega))
  have HLT0 : Hid (∀ y, a = some y → 0 < n → y.block < w.heap.size) := Hid.mk (fun y hy h0 => by subst hy; exact isBytes_lt hG h0)
  have HG := Hid.mk hG
  have HD := Hid.mk hD
  obtain ⟨K, hK⟩ : ∃ K, K = nxN m := ⟨_, rfl⟩
  have hK42 : K ≤ 42 := by rw [hK]; exact nx_le m h3
  rw [← hK] at HSP
  obtain ⟨NP, hNP⟩ : ∃ NP, NP = 1 + K := ⟨_, rfl⟩
  rw [← hNP] at HSP
  have hNm : (NP : Int) - 1 = (K : Int) := by omega
  have hNPb : (NP : Int) ≤ 43 := by omega
  have HNP := Hid.mk hNP
  have HK : Hid (K = nxN l.length) := Hid.mk (by rw [hll]; exact hK)
  have HLL := Hid.mk hll
  have HM3 : Hid (1 ≤ m ∧ m ≤ 300) := Hid.mk ⟨h1, h3⟩
  unfold gtC at HB HSP
  unfold gtV at HCK ⊢
  clear hB0 hE hD hG hb hK hll hNP h1 h3
  go_enter Try.func8, Try.ntmps8
  go_wp2_with fail
  refine HSP.out.mono ?_
  rintro e w1 ⟨gx, c, rfl, hp1, hb1⟩
  have HB1 := Hid.mk (bl2 HB.out hb1)
  have HR1 := Hid.mk (HR.out.kept hb1)
  rw [show (w.alloc (.cells #[.int .i64 want, .slice a n cap, .int .i64 next, .int .i64 block, .int .i64 left] 44)).heap.size = w.heap.size + 1 by simp] at hp1
  have HP1 := Hid.mk hp1
  clear hb1 HSP HB HR hp1
  go_wp2_with fail
  refine (hPT _).mono ?_
  rintro e w2 ⟨rfl, hb2⟩
  have HB2 := Hid.mk (bl2 HB1.out hb2)
  have HR2 := Hid.mk (HR1.out.kept hb2)
  have HP2 := Hid.mk (HP1.out.kept hb2)
  obtain ⟨a0, a1, a2, a3, a4⟩ := HR2.out.cells
  clear hb2 HB1 HR1 HP1
  go_wp2_with fail
  refine (HCK.out _).mono ?_
  rintro e w3 ⟨rfl, hb3⟩
  have HB3 := Hid.mk (bl2 HB2.out hb3)
  have HR3 := Hid.mk (HR2.out.kept hb3)
  have HP3 := Hid.mk (HP2.out.kept hb3)
  clear hb3 HB2 HR2 HP2 HCK a0 a1 a2 a3 a4
  go_wp2_with fail
  go_loopw [32] (fun i wr => ∃ (k : Nat) (w0 x0 b0 l0 : Int) (o : Option Addr) (q qc : Nat) (d0 : List UInt8), k ≤ K ∧ i = .int .i64 k ∧ Hid (Row5 wr w.heap.size 44 (.int .i64 w0) (.slice o q qc) (.int .i64 x0) (.int .i64 b0) (.int .i64 l0)) ∧ Hid (FarB w.heap.size w.heap.size wr o q qc d0) ∧ Hid (getX w0 x0 b0 l0 d0 ((partsL l).getD k []) = gX b l k) ∧ Hid (PtsF wr gx NP (partsL l) (w.heap.size + 1)) ∧ Hid (Below w.heap.size w wr)) (fun i _ => K + 1 - (intOf i).toNat)
  case atStart => exact ⟨0, want, next, block, left, a, n, cap, dt, Nat.zero_le _, rfl, HR3, Hid.mk ⟨isBytes_below HG.out HB3.out, fun h0 y hy => ⟨by have := HLT0.out y hy h0; omega, by have := HLT0.out y hy h0; omega⟩⟩, by rw [parts_first]; exact HF, HP3, HB3⟩
  case round =>
    obtain ⟨k, w0, x0, bk, l0, o, q, qc, d0, hk, rfl, HR, HF0, HX, HP, HBl⟩ := hrel
    have hkN : k < NP := by have := HNP.out; omega
    have hkN' : (k : Int) < (NP : Int) := by omega
    obtain ⟨y, d, z, hc, hY, -⟩ := HP.out.2 k hkN
    have HGT := Hid.mk (get_any w0 o q qc x0 bk l0 (some y) z d d0 _ wr HF0.out.1 hY)
    rw [HX.out] at HGT
    have HXE := Hid.mk (gX_e b l k)
    obtain ⟨g0, g1, g2, g3, g4⟩ := HR.out.cells
    have HRL := Hid.mk HR.out.lt
    unfold gtV at HGT
    clear hY
    by_cases hlt : k < K
    · have hgx : gX b l k = ⟨(l.length : Nat), ((k + 1) % 16 : Nat), (b : Nat), (gLf b k : Nat), l.take (6 + 7 * k), ansL b k, [], 0⟩ := by
        unfold gX
        rw [if_pos (by rw [← HK.out]; exact hlt)]
      have HNX : Hid (getX (gX b l k).want (gX b l k).next (gX b l k).block (gX b l k).left (gX b l k).dt ((partsL l).getD (k + 1) []) = gX b l (k + 1)) := Hid.mk (by
        rw [parts_next (by rw [← HK.out]; exact hlt), hgx]
        exact getX_next hb5 (by rw [← HK.out]; exact hlt) (by rw [HLL.out]; exact HM3.out.2))
      have HWH : Hid ((gX b l k).whole = []) := Hid.mk (by rw [hgx])
      have hkK : ((k : Int) == (K : Int)) = false := by simp; omega
      have HKK := Hid.mk hlt
      clear hgx
      generalize gX b l k = X at *
      go_wp2_with fail
      refine HGT.out.mono ?_
      rintro e w5 ⟨o1, n1, e1, o2, n2, e2, o3, n3, e3, rfl, hf1, hf2, hf3, hwn, hb5'⟩
      have ho3 := hwn HWH.out
      subst ho3
      rw [HXE.out]
      unfold gtV
      have hnn := fun W => neqP W none n3 e3
      simp only [Option.isNone_none, Bool.not_true] at hnn
      obtain ⟨xw, xn, xb, xl, xd, xa, xh, xe⟩ := X
      simp only at *
      have hba := awG w5 (.cells #[.int .i64 xw, .slice o1 n1 e1, .int .i64 xn, .int .i64 xb, .int .i64 xl] 44)
      have hbb := bl2 hb5' hba
      obtain ⟨x0', x1', x2', x3', x4'⟩ := (Row5.new w5 44 (.int .i64 xw) (.slice o1 n1 e1) (.int .i64 xn) (.int .i64 xb) (.int .i64 xl)).cells
      obtain ⟨⟨z0, z1, z2, z3, z4⟩, ⟨y0, y1, y2, y3, y4⟩, ⟨p1, q1⟩, ⟨p2, q2⟩, ⟨p3, q3⟩, ⟨p4, q4⟩, hSX⟩ := (HR.out.kept hbb).ready (.int .i64 xw) (.slice o1 n1 e1) (.int .i64 xn) (.int .i64 xb) (.int .i64 xl)
      have HSX := Hid.mk hSX
      have HF5 := Hid.mk (((hf1.far (gs := w.heap.size) (gg := w.heap.size) HRL.out (Or.inl HRL.out)).kept hba).setS (.int .i64 xw) (.slice o1 n1 e1) (.int .i64 xn) (.int .i64 xb) (.int .i64 xl))
      have HB5 := Hid.mk (set5_below (bl2 HBl.out hbb) (Nat.le_refl w.heap.size) (.int .i64 xw) (.slice o1 n1 e1) (.int .i64 xn) (.int .i64 xb) (.int .i64 xl))
      have HP5 := Hid.mk ((HP.out.kept hbb).far (Nat.lt_succ_self w.heap.size) (.int .i64 xw) (.slice o1 n1 e1) (.int .i64 xn) (.int .i64 xb) (.int .i64 xl))
      unfold set5 at HSX HF5 HB5 HP5
      clear hf1 hf2 hf3 hwn hb5' hba hbb hSX HR HF0 HP HBl hc g0 g1 g2 g3 g4 HGT
      go_wp2_with fail
      go_roundw
      case rel => exact ⟨k + 1, xw, xn, xb, xl, o1, n1, e1, xd, HKK.out, int_eq (by omega), HSX, HF5, HNX, HP5, HB5⟩
      case measure => have := HKK.out; simp [intOf]; omega
    · obtain rfl : k = K := by omega
      have hgx : gX b l k = ⟨0, 0, (b : Nat), 0, [], [], l, 0⟩ := by
        unfold gX
        rw [if_neg (by rw [← HK.out]; omega)]
      rw [hgx] at HGT
      have hkK : ((k : Int) == (k : Int)) = true := by simp
      clear hgx HXE
      go_wp2_with fail
      refine HGT.out.mono ?_
      rintro e w5 ⟨o1, n1, e1, o2, n2, e2, o3, n3, e3, rfl, hf1, hf2, hf3, hwn, hb5'⟩
      obtain ⟨y3, rfl⟩ : ∃ y3, o3 = some y3 := by
        cases o3 with
        | none => have h0 := hf3.1.2.2.2.1 rfl; have h4 := hf3.1.1; have := HLL.out; have := HM3.out.1; simp only at h4; omega
        | some y3 => exact ⟨y3, rfl⟩
      have hnn := fun W => neqP W (some y3) n3 e3
      simp only [Option.isNone_some, Bool.not_false] at hnn
      unfold gtV
      simp only at *
      have hba := awG w5 (.cells #[.int .i64 0, .slice o1 n1 e1, .int .i64 0, .int .i64 (b : Int), .int .i64 0] 44)
      have HB5 := Hid.mk (bl2 (bl2 HBl.out hb5') hba)
      have HEQ := Hid.mk (equal_is (isBytes_below hf3.1 hba) (isBytes_below HD.out HB5.out))
      have HX5 := Hid.mk (Row5.new w5 44 (.int .i64 0) (.slice o1 n1 e1) (.int .i64 0) (.int .i64 (b : Int)) (.int .i64 0))
      clear hf1 hf2 hf3 hwn hb5' hba HR HF0 HP HBl hc g0 g1 g2 g3 g4 HGT
      go_wp2_with fail
      refine HEQ.out.mono ?_
      rintro e w6 ⟨rfl, hb6⟩
      have HB6 := Hid.mk (bl2 HB5.out hb6)
      obtain ⟨x0', x1', x2', x3', x4'⟩ := (HX5.out.kept hb6).cells
      clear hb6 HB5 HEQ HX5
      go_wp2_with fail
      go_ret
      exact ⟨rfl, HB6.out⟩
end Bw
end Go.Proofs.Ytgjnfmbmndnihaa
