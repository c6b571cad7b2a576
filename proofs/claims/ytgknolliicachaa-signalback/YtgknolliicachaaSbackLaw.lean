/- SignalBack: what is written is read, and no bit beside changes; what is read is written as it stood. -/
import Derived.Test.YtgknolliicachaaSgFacts2
import Derived.Test.YtgknolliicachaaSgLed
import Derived.Test.YtgknolliicachaaNumRow
import Derived.Test.YtgknolliicachaaBigFrac64
import Derived.Test.YtgknolliicachaaBigRcmp
import Derived.Deep.OwnRows
namespace Go.Proofs.Ytgknolliicachaa
open Go.ChangeShapes Go.WideShapes Go.ChangeAt Go.RowKit Go.Sort
namespace Bw
open Sm Ww
theorem nums_ownP {w : World} {base g n c : Nat} {xs : List Int} (h : w.ownsRow base 3 1 (.slice (some ⟨g, 0, none⟩) n c) n (pnC xs)) : NumsAt w g 0 xs := by
  intro i hi
  have hl : (pnC xs).length = n * 1 := h.1
  have hn : xs.length = n := by simpa [pnC] using hl
  rw [Nat.zero_add, h.cellAt i (by omega)]
  simp [pnC, hi]
theorem slice_of_ownP {w : World} {base sz : Nat} {v : Value} {xs : List Int} (h : w.ownsRow base 3 1 v sz (pnC xs)) (h1 : 1 ≤ sz) : ∃ g c, v = .slice (some ⟨g, 0, none⟩) sz c ∧ NumsAt w g 0 xs := by
  have h0 := h
  obtain ⟨hl, h2⟩ := h
  rcases h2 with ⟨rfl, h3⟩ | ⟨g, c, cur, rfl, _⟩
  · omega
  · exact ⟨g, c, rfl, nums_ownP h0⟩
theorem nums_keptP {w w' : World} {g off : Nat} {xs : List Int} (h : NumsAt w g off xs) (hb : Below w.heap.size w w') : NumsAt w' g off xs := fun i hi => cell_kept hb (h i hi)
def rvC : List Value := [.bool false, .slice none 0 0, .bool false, .slice none 0 0]
theorem rv_new (w : World) : BlkAt (w.alloc (.cells #[.bool false, .slice none 0 0, .bool false, .slice none 0 0] 41)) w.heap.size rvC 41 := heap_alloc_new w _
theorem rv_rat : RatV rvC := ⟨_, _, _, _, _, _, _, _, rfl⟩
theorem rvB (w : World) : Below w.heap.size w (w.alloc (.cells #[.bool false, .slice none 0 0, .bool false, .slice none 0 0] 41)) := (Below.refl _ _).alloc (Nat.le_refl _) _
theorem info_u8B : (Try.prog.info? 5).map (fun i => (i.zero, i.size, i.bytes)) = some (some (.int .u8 0), 1, 1) := by kernel_rfl
/-- a fraction made of two numbers in a variable of its own -/
theorem newFrac (p q : Int) (w : World) (hq : 0 < q) (hp1 : -4611686018427387903 ≤ p) (hp2 : p ≤ 4611686018427387903) (hq2 : q ≤ 4611686018427387903) :
    Calls Try.prog 9 #[.pointer (some ⟨w.heap.size, 0, none⟩), .int .i64 p, .int .i64 q] (w.alloc (.cells #[.bool false, .slice none 0 0, .bool false, .slice none 0 0] 41)) fun e w' => e = .returned (.pointer (some ⟨w.heap.size, 0, none⟩)) ∧ RatAt w' w.heap.size (numL p q) (denL p q) ∧ Below w.heap.size w w' := by
  refine (setFrac64_z w.heap.size rvC p q _ (rv_new w) rv_rat hq hp1 hp2 hq2).mono ?_
  rintro e w' ⟨h1, h2, h3⟩
  exact ⟨h1, h2, Tch.below (rvB w) h3 (by simp) (Nat.le_refl _)⟩
/-- the cells that the statement's last part loads -/
def SSd (w : World) (g h : Nat) (nm : ByteArray) (sta sza : Int) (bk sg : Bool) (mu di ad ky N D : Int) : Prop :=
  w.cell? ⟨g, 0, none⟩ = some (.string nm) ∧ w.cell? ⟨g, 1, none⟩ = some (.int .i64 sta) ∧ w.cell? ⟨g, 2, none⟩ = some (.int .i64 sza) ∧ w.cell? ⟨g, 3, none⟩ = some (.bool bk) ∧ w.cell? ⟨g, 4, none⟩ = some (.bool sg) ∧ w.cell? ⟨g, 5, none⟩ = some (.int .i64 mu) ∧ w.cell? ⟨g, 6, none⟩ = some (.int .i64 di) ∧ w.cell? ⟨g, 7, none⟩ = some (.int .i64 ad) ∧ w.cell? ⟨g, 8, none⟩ = some (.int .i64 ky) ∧ w.cell? ⟨h, 1, none⟩ = some (.int .i64 N) ∧ w.cell? ⟨h, 2, none⟩ = some (.int .i64 D)
theorem SS_kept {w w' : World} {g h : Nat} {nm : ByteArray} {sta sza : Int} {bk sg : Bool} {mu di ad ky N D : Int} (h0 : SSd w g h nm sta sza bk sg mu di ad ky N D) (hb : Below w.heap.size w w') : SSd w' g h nm sta sza bk sg mu di ad ky N D := by
  obtain ⟨a0, a1, a2, a3, a4, a5, a6, a7, a8, a9, a10⟩ := h0
  exact ⟨cell_kept hb a0, cell_kept hb a1, cell_kept hb a2, cell_kept hb a3, cell_kept hb a4, cell_kept hb a5, cell_kept hb a6, cell_kept hb a7, cell_kept hb a8, cell_kept hb a9, cell_kept hb a10⟩
set_option maxHeartbeats 32000000 in
set_option maxRecDepth 100000 in
theorem back_law (s : Sig) (a : Option Addr) (len cap : Nat) (l : List UInt8) (num den : Int) (w : World) (hs : wfS s) (hD : IsBytes w a len cap l) :
    Calls Try.prog 3 #[sgV s, .slice a len cap, .int .i64 num, .int .i64 den] w fun e w' => e = .returned (.bool true) ∧ Below w.heap.size w w' := by
  have HB := Hid.mk (sg_box w s)
  have HG := Hid.mk (SgAt.box w s)
  have HLED := Hid.mk (fun W => signalled_any W)
  have HWRITE := Hid.mk (fun a cap l W (h : IsBytes W a len cap l) => swrite_spec s a len cap l num den W hs h)
  have HREAD := Hid.mk (fun a cap l W (h : IsBytes W a len cap l) => sread_spec s a len cap l W hs h)
  have HRDOK := Hid.mk (fun a cap l W st sz (h : IsBytes W a len cap l) hE hR => sread_ok s st sz a len cap l W hs h hE hR)
  have HWROK := Hid.mk (fun N D a cap l W st sz (h : IsBytes W a len cap l) hE hR hX => swrite_ok s st sz a len cap l N D W hs h hE hR hX)
  have HPLS := Hid.mk (fun W st sz hE hR => places_ok s st sz len len W hs hE hR)
  have HD := Hid.mk hD
  obtain ⟨nm, sta, sza, bk, sg, mu, di, ad, ky⟩ := s
  unfold sgC at HB HG
  unfold sgV at HWRITE HREAD HRDOK HWROK HPLS ⊢
  simp only at HB HG HWRITE HREAD HRDOK HWROK HPLS ⊢
  clear hD hs
  go_enter Try.func3, Try.ntmps3
  go_wp2_with fail
  refine (HWRITE.out _ _ _ _ (isBytes_below HD.out HB.out)).mono ?_
  rintro e w1 ⟨hb1, hcase⟩
  have HB1 := Hid.mk (bl2 HB.out hb1)
  have HG1 := Hid.mk (HG.out.kept hb1)
  clear hb1 HB HG HWRITE
  rcases hcase with ⟨E, hE0, rfl⟩ | ⟨hE1, st1, sz1, hR1, hX1, g1, k1, rfl, hown1⟩
  · have hne : (E == 0) = false := by simpa using hE0
    clear hE0 HPLS
    go_wp2_with fail
    refine (HLED.out _).mono ?_
    rintro e w2 ⟨rfl, hb2⟩
    have HB2 := Hid.mk (bl2 HB1.out hb2)
    have HG2 := Hid.mk (HG1.out.kept hb2)
    have HD2 := Hid.mk (isBytes_below HD.out HB2.out)
    clear hb2
    obtain ⟨c0, c1, c2, c3, c4, c5, c6, c7, c8⟩ := HG2.out
    simp only at c0 c1 c2 c3 c4 c5 c6 c7 c8
    go_wp2_with fail
    refine (HREAD.out _ _ _ _ HD2.out).mono ?_
    rintro e wa ⟨hba, hcase⟩
    have HBa := Hid.mk (bl2 HB2.out hba)
    have HGa := Hid.mk (HG2.out.kept hba)
    have HDa := Hid.mk (isBytes_below HD2.out hba)
    clear hba c0 c1 c2 c3 c4 c5 c6 c7 c8
    rcases hcase with ⟨E, hE0, -, rfl⟩ | ⟨hE0, st, sz, hRt, rfl⟩
    · have hne : (E != 0) = true := by simpa using hE0
      have HAa := Hid.mk (rd_B wa ⟨#[]⟩ 0 0)
      unfold rdC at HAa
      unfold rdV
      clear hE0
      go_wp2_with fail
      go_ret
      exact ⟨rfl, bl2 HBa.out HAa.out⟩
    · have HRT2 := Hid.mk hRt
      have HCK2 := Hid.mk hE0
      obtain ⟨sp1, sp2⟩ := rawR_span hRt l
      have HBK2 := Hid.mk (fun h1 h2 => back_frac hRt (R := rawR _ st sz l) sp1 sp2 h1 h2)
      have HWR2 := Hid.mk (wr_raw hRt HDa.out.1)
      have HZR := Hid.mk (fun (z : List UInt8) (hz : z.length = len) => raw_of_bits hRt (l := wrS _ st sz z (rawR _ st sz l)) (r := rawR _ st sz l) (fun i hi => wrS_at hRt hz _ hi) sp1 sp2)
      have HW3 := Hid.mk (fun N D a cap l W (h : IsBytes W a len cap l) hX => HWROK.out N D a cap l W st sz h hE0 hRt hX)
      have HR3 := Hid.mk (fun a cap l W (h : IsBytes W a len cap l) => HRDOK.out a cap l W st sz h hE0 hRt)
      have hl64 : len ≤ 64 := hRt.n64
      clear sp1 sp2 hRt hE0 HWROK HRDOK
      simp only at HBK2
      generalize hRW : rawR _ st sz l = R at *
      obtain ⟨N, hN⟩ : ∃ N, N = numL (meanN ⟨nm, sta, sza, bk, sg, mu, di, ad, ky⟩ R) di := ⟨_, rfl⟩
      obtain ⟨D, hDn⟩ : ∃ D, D = denL (meanN ⟨nm, sta, sza, bk, sg, mu, di, ad, ky⟩ R) di := ⟨_, rfl⟩
      rw [← hN, ← hDn] at HBK2 ⊢
      have HN := Hid.mk hN
      have HDN := Hid.mk hDn
      clear hN hDn hRW
      have HAa := Hid.mk (rd_B wa nm N D)
      have HZa := Hid.mk (rd_at wa nm N D)
      have HGb := Hid.mk (HGa.out.kept HAa.out)
      have HDb := Hid.mk (isBytes_below HDa.out HAa.out)
      unfold rdC at HAa HZa HGb HDb
      unfold rdV
      obtain ⟨⟨q0, q1, q2⟩, -, -, -⟩ := HZa.out.cells
      by_cases hb1 : (1099511627776 : Int) < N
      · clear q0 q1 q2
        go_wp2_with fail
        go_ret
        exact ⟨by first | rfl | simp, bl2 HBa.out HAa.out⟩
      by_cases hb2 : N < (-1099511627776 : Int)
      · clear q0 q1 q2
        go_wp2_with fail
        go_ret
        exact ⟨by first | rfl | simp, bl2 HBa.out HAa.out⟩
      obtain ⟨hX0, hV0⟩ := HBK2.out (by omega) (by omega)
      have HX0 := Hid.mk hX0
      have HV0 := Hid.mk hV0
      have hb1' : N ≤ 1099511627776 := by omega
      have hb2' : (-1099511627776 : Int) ≤ N := by omega
      clear hX0 hV0 hb1 hb2 HBK2
      obtain ⟨c0, c1, c2, c3, c4, c5, c6, c7, c8⟩ := HGb.out
      simp only at c0 c1 c2 c3 c4 c5 c6 c7 c8
      go_wp2_with fail
      obtain ⟨wb, hwb⟩ : ∃ wb, wb = wa.alloc (.cells #[.string nm, .int .i64 N, .int .i64 D] 30) := ⟨_, rfl⟩
      rw [← hwb] at HAa HZa HGb HDb c0 c1 c2 c3 c4 c5 c6 c7 c8 ⊢
      have HWB := Hid.mk (show wb.heap.size = wa.heap.size + 1 by rw [hwb]; simp)
      clear hwb q0 q1 q2
      obtain ⟨⟨q0, q1, q2⟩, -, -, -⟩ := HZa.out.cells
      have hS0 : SSd wb.drew w.heap.size wa.heap.size nm sta sza bk sg mu di ad ky N D := ⟨c0, c1, c2, c3, c4, c5, c6, c7, c8, q1, q2⟩
      obtain ⟨ZO, hZO⟩ : ∃ ZO : Obj, ZO = .cells (madeCells #[.int .u8 0] len) 5 := ⟨_, rfl⟩
      have hmk : ∀ W, (Instr.makeSlice 24 (.int .i64 (len : Int)) (.int .i64 (len : Int))).run Try.prog W = .ok (.slice (some ⟨W.heap.size, 0, none⟩) len len) (W.alloc ZO) := by
        intro W
        rw [hZO]
        exact run_make_row' 24 5 (.int .u8 0) 1 Try.underlying24 info_u8B rfl .i64 .i64 len (by omega) (by omega) W
      have HZO := Hid.mk (fun W : World => (show IsBytes (W.alloc ZO) (some ⟨W.heap.size, 0, none⟩) len len (List.replicate len 0) by rw [hZO]; exact zeros_at W len hl64))
      have HZB := Hid.mk (fun W : World => (show Below W.heap.size W (W.alloc ZO) from (Below.refl _ _).alloc (Nat.le_refl _) _))
      clear hZO
      have hS1 := SS_kept (show SSd wb w.heap.size wa.heap.size nm sta sza bk sg mu di ad ky N D from hS0) (bl2 (HZB.out wb) (dwS _))
      have HZX := Hid.mk (isBytes_below (HZO.out wb) (dwS _))
      go_region_held3 (fun w' => w'.cell? ⟨w.heap.size, 0, none⟩ = some (.string nm) ∧ w'.cell? ⟨w.heap.size, 1, none⟩ = some (.int .i64 sta) ∧ w'.cell? ⟨w.heap.size, 2, none⟩ = some (.int .i64 sza) ∧ w'.cell? ⟨w.heap.size, 3, none⟩ = some (.bool bk) ∧ w'.cell? ⟨w.heap.size, 4, none⟩ = some (.bool sg) ∧ w'.cell? ⟨w.heap.size, 5, none⟩ = some (.int .i64 mu) ∧ w'.cell? ⟨w.heap.size, 6, none⟩ = some (.int .i64 di) ∧ w'.cell? ⟨w.heap.size, 7, none⟩ = some (.int .i64 ad) ∧ w'.cell? ⟨w.heap.size, 8, none⟩ = some (.int .i64 ky) ∧ w'.cell? ⟨wa.heap.size, 1, none⟩ = some (.int .i64 N) ∧ w'.cell? ⟨wa.heap.size, 2, none⟩ = some (.int .i64 D)) (first | exact hS0 | exact hS1 | exact hS2) (first
        | (go_at_call 5; with_reducible refine (HW3.out N D _ _ _ _ HZX.out HX0.out).mono ?_; rintro e wc ⟨g1, k1, rfl, hown1, hbc⟩
           have hS2 := SS_kept hS1 hbc
           have HOc := Hid.mk (isBytes_own hown1)
           have HBc := Hid.mk (bl2 (HZB.out wb) (bl2 (dwS _) hbc))
           clear hown1 hbc))
      have HDc := Hid.mk (isBytes_below HDb.out HBc.out)
      have HZc := Hid.mk (HZa.out.kept HBc.out)
      have HOx := HOc.out
      rw [HV0.out] at HOx
      have HXB := Hid.mk HOx
      have HQX := Hid.mk (HZR.out (List.replicate len 0) List.length_replicate)
      obtain ⟨d0, d1, d2, d3, d4, d5, d6, d7, d8, d9, d10⟩ := hS2
      clear HOx hS0 hS1 q0 q1 q2 c0 c1 c2 c3 c4 c5 c6 c7 c8
      go_wp2_with fail
      with_reducible refine (HW3.out N D _ _ _ _ HDc.out HX0.out).mono ?_
      rintro e wd ⟨g2, k2, rfl, hown2, hbd⟩
      have hY := isBytes_own hown2
      rw [HV0.out, HWR2.out] at hY
      have HYd := Hid.mk hY
      have HXd := Hid.mk (isBytes_below HXB.out hbd)
      have HDd := Hid.mk (isBytes_below HDc.out hbd)
      have HZd := Hid.mk (HZc.out.kept hbd)
      have HBd := Hid.mk (bl2 HBc.out hbd)
      obtain ⟨e0, e1, e2, e3, e4, e5, e6, e7, e8⟩ := (HGb.out.kept HBd.out)
      simp only at e0 e1 e2 e3 e4 e5 e6 e7 e8
      clear hY hown2 hbd d0 d1 d2 d3 d4 d5 d6 d7 d8 d9 d10
      have hR4 := HR3.out _ _ _ wd HXd.out
      rw [HQX.out] at hR4
      rw [← HN.out, ← HDN.out] at hR4
      unfold rdV at hR4
      have HR4 := Hid.mk hR4
      clear hR4
      go_wp2_with fail
      with_reducible refine HR4.out.mono ?_
      rintro e we ⟨rfl, hbe⟩
      have HBe := Hid.mk (bl2 HBd.out hbe)
      have HYe := Hid.mk (isBytes_below HYd.out hbe)
      have HDe := Hid.mk (isBytes_below HDd.out hbe)
      have HZe := Hid.mk (HZd.out.kept hbe)
      have HAe := Hid.mk (rd_B we nm N D)
      have HVe := Hid.mk (rd_at we nm N D)
      have HQe := Hid.mk (equalB_true (we.alloc (rdC nm N D)) (some ⟨g2, 0, none⟩) a len k2 cap l (by unfold maxLen; omega) (hasB (isBytes_below HYe.out HAe.out)) (hasB (isBytes_below HDe.out HAe.out)))
      have HZf := Hid.mk (HZe.out.kept HAe.out)
      unfold rdC at HAe HVe HQe HZf
      clear hbe e0 e1 e2 e3 e4 e5 e6 e7 e8 HR4
      go_wp2_with fail
      with_reducible refine HQe.out.mono ?_
      rintro e wf ⟨rfl, hbf⟩
      obtain ⟨⟨u0, u1, u2⟩, -, -, -⟩ := (HZf.out.kept hbf).cells
      obtain ⟨⟨v0, v1, v2⟩, -, -, -⟩ := (HVe.out.kept hbf).cells
      have HBf := Hid.mk (bl2 (bl2 HBa.out HAa.out) (bl2 HBe.out (bl2 HAe.out hbf)))
      clear hbf
      go_wp2_with fail
      go_ret
      exact ⟨by first | rfl | simp, HBf.out⟩
  · have HE1 := Hid.mk hE1
    have HRT1 := Hid.mk hR1
    have hs1 := hR1.s1
    have hs40 := hR1.s40
    have hl64 := hR1.n64
    obtain ⟨hm1, hm2⟩ := mean_low hR1 hX1
    have hraw := raw_wr hR1 HD.out.1 hX1
    have hfr := (rawE_parts hX1).1
    unfold fracB at hfr
    simp only [Bool.and_eq_true, inB_iff] at hfr
    obtain ⟨⟨dn1, dn2⟩, nn1, nn2⟩ := hfr
    have hcop := low_coprime (n := num) (d := den) (by omega)
    have hdp := denL_pos (n := num) (d := den) (by omega)
    have hdl := denL_le (n := num) (d := den) (by omega)
    have hnb : -1099511627776 ≤ numL num den ∧ numL num den ≤ 1099511627776 := by
      have e1 := (low_mul (n := num) (d := den)).1
      have e2 := gcd_pos (n := num) (d := den) (by omega)
      have e3 : (numL num den).natAbs ≤ num.natAbs := by rw [numL_abs]; exact Nat.div_le_self _ _
      omega
    have HOTH := Hid.mk (fun q hq => wrS_other hR1 HD.out.1 (rawV ⟨nm, sta, sza, bk, sg, mu, di, ad, ky⟩ num den) (q := q) hq)
    have hRd := fun a cap W (h : IsBytes W a len cap (wrS ⟨nm, sta, sza, bk, sg, mu, di, ad, ky⟩ st1 sz1 l (rawV ⟨nm, sta, sza, bk, sg, mu, di, ad, ky⟩ num den))) => HRDOK.out a cap _ W st1 sz1 h hE1 hR1
    rw [hraw] at hRd
    simp only at hRd hm1 hm2
    rw [hm1, hm2] at hRd
    unfold rdV at hRd
    have HRD := Hid.mk hRd
    have HPL1 := Hid.mk (fun W => HPLS.out W st1 sz1 hE1 hR1)
    have HLL := Hid.mk (show (wrS ⟨nm, sta, sza, bk, sg, mu, di, ad, ky⟩ st1 sz1 l (rawV ⟨nm, sta, sza, bk, sg, mu, di, ad, ky⟩ num den)).length = len by rw [wrS_length]; exact HD.out.1)
    have HY1 := Hid.mk (isBytes_own hown1)
    have HXL := Hid.mk (plsL_length bk st1 sz1 sz1)
    have HMEM := Hid.mk (fun q h => mem_pls (bk := bk) (st := st1) (sz := sz1) (q := q) h)
    have HOR := Hid.mk (fun q => place_or (bk := bk) (st := st1) (sz := sz1) (q := q))
    generalize wrS _ st1 sz1 l _ = L1 at *
    generalize rawV _ num den = r1 at *
    generalize plsL bk st1 sz1 sz1 = xs at *
    clear hE1 hR1 hX1 hown1 hm1 hm2 hraw hRd HPLS
    go_wp2_with fail
    refine (HLED.out _).mono ?_
    rintro e w2 ⟨rfl, hb2⟩
    have HB2 := Hid.mk (bl2 HB1.out hb2)
    have HG2 := Hid.mk (HG1.out.kept hb2)
    have HY2 := Hid.mk (isBytes_below HY1.out hb2)
    clear hb2 HB1 HG1 HY1
    obtain ⟨c0, c1, c2, c3, c4, c5, c6, c7, c8⟩ := HG2.out
    simp only at c0 c1 c2 c3 c4 c5 c6 c7 c8
    go_wp2_with fail
    with_reducible refine (HRD.out _ _ _ HY2.out).mono ?_
    rintro e w3 ⟨rfl, hb3⟩
    obtain ⟨N1, hN1⟩ : ∃ N1, N1 = numL num den := ⟨_, rfl⟩
    obtain ⟨D1, hD1⟩ : ∃ D1, D1 = denL num den := ⟨_, rfl⟩
    rw [← hN1, ← hD1] at hcop ⊢
    rw [← hN1] at hnb
    rw [← hD1] at hdp hdl
    obtain ⟨hnb1, hnb2⟩ := hnb
    have HN1 := Hid.mk hN1
    have HD1 := Hid.mk hD1
    have HCOP := Hid.mk hcop
    clear hN1 hD1 hcop
    have HA3 := Hid.mk (rd_B w3 nm N1 D1)
    have HZ3 := Hid.mk (rd_at w3 nm N1 D1)
    have HB4 := Hid.mk (bl2 (bl2 HB2.out hb3) HA3.out)
    have HG4 := Hid.mk ((HG2.out.kept hb3).kept HA3.out)
    have HY4 := Hid.mk (isBytes_below (isBytes_below HY2.out hb3) HA3.out)
    unfold rdC at HA3 HZ3 HB4 HG4 HY4
    clear hb3 HB2 HG2 HY2 HA3 HRD c0 c1 c2 c3 c4 c5 c6 c7 c8
    obtain ⟨c0, c1, c2, c3, c4, c5, c6, c7, c8⟩ := HG4.out
    simp only at c0 c1 c2 c3 c4 c5 c6 c7 c8
    have hl64' : (len : Int) ≤ 64 := by omega
    go_wp2_with fail
    with_reducible refine (HPL1.out _).mono ?_
    rintro e w5 ⟨v5, rfl, hown5, hb5⟩
    obtain ⟨gp, cp, rfl, hnu⟩ := slice_of_ownP hown5 hs1
    have HNU5 := Hid.mk hnu
    have HB5 := Hid.mk (bl2 HB4.out hb5)
    have HG5 := Hid.mk (HG4.out.kept hb5)
    have HY5 := Hid.mk (isBytes_below HY4.out hb5)
    have HZ5 := Hid.mk (HZ3.out.kept hb5)
    have HF1 := Hid.mk (newFrac N1 D1 w5 hdp (by omega) (by omega) (by omega))
    have HV5 := Hid.mk (HZ5.out.kept (rvB w5))
    obtain ⟨⟨q0, q1, q2⟩, -, -, -⟩ := HV5.out.cells
    clear hown5 hnu hb5 HB4 HG4 HY4 HZ3 HPL1 c0 c1 c2 c3 c4 c5 c6 c7 c8
    go_wp2_with fail
    with_reducible refine HF1.out.mono ?_
    rintro e w6 ⟨rfl, hr6, hb6⟩
    have HR6 := Hid.mk hr6
    have HB6 := Hid.mk (bl2 HB5.out hb6)
    have HG6 := Hid.mk (HG5.out.kept hb6)
    have HY6 := Hid.mk (isBytes_below HY5.out hb6)
    have HNU6 := Hid.mk (nums_keptP HNU5.out hb6)
    have HF2 := Hid.mk (newFrac num den w6 (by omega) (by omega) (by omega) (by omega))
    clear hr6 hb6 q0 q1 q2 HB5 HG5 HY5 HNU5 HV5 HZ5
    go_wp2_with fail
    with_reducible refine HF2.out.mono ?_
    rintro e w7 ⟨rfl, hr7, hb7⟩
    have hr6 := HR6.out.kept hb7
    rw [(low_of_cop HCOP.out).1, (low_of_cop HCOP.out).2] at hr6
    rw [← HN1.out, ← HD1.out] at hr7
    have HC7 := Hid.mk (rcmp_same w5.heap.size w6.heap.size N1 D1 w7 hr6 hr7 hdp (by omega) (by omega) (by omega))
    have HB7 := Hid.mk (bl2 HB6.out hb7)
    have HG7 := Hid.mk (HG6.out.kept hb7)
    have HY7 := Hid.mk (isBytes_below HY6.out hb7)
    have HNU7 := Hid.mk (nums_keptP HNU6.out hb7)
    clear hr6 hr7 hb7 HR6 HB6 HG6 HY6 HNU6 hdp hdl hnb1 hnb2
    go_wp2_with fail
    with_reducible refine HC7.out.mono ?_
    rintro e w8 ⟨rfl, hb8⟩
    have HB8 := Hid.mk (bl2 HB7.out hb8)
    have HG8 := Hid.mk (HG7.out.kept hb8)
    have HY8 := Hid.mk (isBytes_below HY7.out hb8)
    have HNU8 := Hid.mk (nums_keptP HNU7.out hb8)
    have HD8 := Hid.mk (isBytes_below HD.out HB8.out)
    clear hb8 HB7 HG7 HY7 HNU7 dn1 dn2 nn1 nn2
    go_wp2_with fail
    go_loopw [74] (fun i wr => ∃ k : Nat, k ≤ 8 * len ∧ i = .int .i64 k ∧ Hid (Below w8.heap.size w8 wr)) (fun i _ => 8 * len - (intOf i).toNat)
    case atStart => exact ⟨0, Nat.zero_le _, rfl, Hid.mk (Below.refl _ _)⟩
    case round =>
      obtain ⟨k, hk, rfl, HBk⟩ := hrel
      by_cases hlt : k < 8 * len
      · have hlt' : (k : Int) < 8 * (len : Int) := by omega
        cases a with
        | none => exact absurd (HD8.out.2.2.2.1 rfl) (by omega)
        | some x =>
          have cA := cell_kept HBk.out (HY8.out.2.2.2.2 _ rfl (k / 8) (by omega))
          have cB := cell_kept HBk.out (HD8.out.2.2.2.2 x rfl (k / 8) (by omega))
          rw [Addr.add_lit, Nat.zero_add] at cA
          have HNUk := Hid.mk (nums_keptP HNU8.out HBk.out)
          have hxa := xor_and (a := (L1.getD (k / 8) 0).toNat) (b := (l.getD (k / 8) 0).toNat) (k := k % 8) (UInt8.toNat_lt _) (UInt8.toNat_lt _) (by omega)
          have hbA : bitN L1 k = (L1.getD (k / 8) 0).toNat / 2 ^ (k % 8) % 2 := rfl
          have hbB : bitN l k = (l.getD (k / 8) 0).toNat / 2 ^ (k % 8) % 2 := rfl
          rw [← hbA, ← hbB] at hxa
          have a256 : (L1.getD (k / 8) 0).toNat < 256 := UInt8.toNat_lt _
          have b256 : (l.getD (k / 8) 0).toNat < 256 := UInt8.toNat_lt _
          generalize (L1.getD (k / 8) 0).toNat = A at *
          generalize (l.getD (k / 8) 0).toNat = B at *
          have a256' : (A : Int) ≤ 255 := by omega
          have b256' : (B : Int) ≤ 255 := by omega
          have hp8 : ((k : Int) / 8).toNat = k / 8 := by omega
          have hp9 : ((k : Int) % 8).toNat = k % 8 := by omega
          have HCT := Hid.mk (fun W h => (containsN gp 0 sz1 cp xs (k : Int) W HXL.out (by omega) h).mono (fun e w' h2 => (show e = .returned (.bool (decide ((k : Int) ∈ xs))) ∧ Below W.heap.size W w' from ⟨h2.1, by rw [h2.2]; exact Below.refl _ _⟩)))
          by_cases hbe : bitN L1 k = bitN l k
          · rw [if_pos hbe] at hxa
            clear hbA hbB hbe HCT
            go_wp2_with fail
            have rxA := fun d os => cell_kept (below_regrown wr d os) cA
            have rxB := fun d os => cell_kept (below_regrown wr d os) cB
            refine wp_region_quiet_below (by kernel_rfl) (by kernel_rfl) ?_
            repeat (go_big_quiet_step (fail))
            refine wpQuiet_nil ?_
            intro _ hw'
            obtain ⟨⟨dq, osq⟩, hw''⟩ := hw'
            have hbq := below_regrown wr dq osq
            rw [hw'']
            generalize grow (redrawn wr dq) osq = W2 at *
            have HBq := Hid.mk (bl2 HBk.out hbq)
            clear hw'' hbq rxA rxB
            go_wp2_with fail
            go_roundw
            case rel => exact ⟨k + 1, by omega, by go_num, HBq⟩
            case measure => simp [intOf]; omega
          · rw [if_neg hbe] at hxa
            have hmem : (k : Int) ∈ xs := by
              rcases HOR.out k with h | h
              · exact HMEM.out k h
              · exact absurd (HOTH.out k h) hbe
            rw [decide_eq_true hmem] at HCT
            clear hbA hbB hbe hmem
            go_wp2_with fail
            have rxA := fun d os => cell_kept (below_regrown wr d os) cA
            have rxB := fun d os => cell_kept (below_regrown wr d os) cB
            refine wp_region_quiet_below (by kernel_rfl) (by kernel_rfl) ?_
            repeat (go_big_quiet_step ((go_at_call 11; exact Calls.regrown_of (HCT.out _ (nums_keptP HNUk.out (below_regrown wr _ _))))))
            refine wpQuiet_nil ?_
            intro _ hw'
            obtain ⟨⟨dq, osq⟩, hw''⟩ := hw'
            have hbq := below_regrown wr dq osq
            rw [hw'']
            generalize grow (redrawn wr dq) osq = W2 at *
            have HBq := Hid.mk (bl2 HBk.out hbq)
            clear hw'' hbq rxA rxB
            go_wp2_with fail
            go_roundw
            case rel => exact ⟨k + 1, by omega, by go_num, HBq⟩
            case measure => simp [intOf]; omega
      · have e : k = 8 * len := by omega
        subst e
        have HB9 := Hid.mk (bl2 HB8.out HBk.out)
        have HG9 := Hid.mk (HG8.out.kept HBk.out)
        have HD9 := Hid.mk (isBytes_below HD8.out HBk.out)
        clear HB8 HG8 HD8 HY8 HNU8 HBk
        obtain ⟨c0, c1, c2, c3, c4, c5, c6, c7, c8⟩ := HG9.out
        simp only at c0 c1 c2 c3 c4 c5 c6 c7 c8
        go_wp2_with fail
        refine (HREAD.out _ _ _ _ HD9.out).mono ?_
        rintro e wa ⟨hba, hcase⟩
        have HBa := Hid.mk (bl2 HB9.out hba)
        have HGa := Hid.mk (HG9.out.kept hba)
        have HDa := Hid.mk (isBytes_below HD9.out hba)
        clear hba c0 c1 c2 c3 c4 c5 c6 c7 c8
        rcases hcase with ⟨E, hE0, -, rfl⟩ | ⟨hE0, st, sz, hRt, rfl⟩
        · have hne : (E != 0) = true := by simpa using hE0
          have HAa := Hid.mk (rd_B wa ⟨#[]⟩ 0 0)
          unfold rdC at HAa
          unfold rdV
          clear hE0
          go_wp2_with fail
          go_ret
          exact ⟨rfl, bl2 HBa.out HAa.out⟩
        · have HRT2 := Hid.mk hRt
          have HCK2 := Hid.mk hE0
          obtain ⟨sp1, sp2⟩ := rawR_span hRt l
          have HBK2 := Hid.mk (fun h1 h2 => back_frac hRt (R := rawR _ st sz l) sp1 sp2 h1 h2)
          have HWR2 := Hid.mk (wr_raw hRt HDa.out.1)
          have HZR := Hid.mk (fun (z : List UInt8) (hz : z.length = len) => raw_of_bits hRt (l := wrS _ st sz z (rawR _ st sz l)) (r := rawR _ st sz l) (fun i hi => wrS_at hRt hz _ hi) sp1 sp2)
          have HW3 := Hid.mk (fun N D a cap l W (h : IsBytes W a len cap l) hX => HWROK.out N D a cap l W st sz h hE0 hRt hX)
          have HR3 := Hid.mk (fun a cap l W (h : IsBytes W a len cap l) => HRDOK.out a cap l W st sz h hE0 hRt)
          have hl64 : len ≤ 64 := hRt.n64
          clear sp1 sp2 hRt hE0 HWROK HRDOK
          simp only at HBK2
          generalize hRW : rawR _ st sz l = R at *
          obtain ⟨N, hN⟩ : ∃ N, N = numL (meanN ⟨nm, sta, sza, bk, sg, mu, di, ad, ky⟩ R) di := ⟨_, rfl⟩
          obtain ⟨D, hDn⟩ : ∃ D, D = denL (meanN ⟨nm, sta, sza, bk, sg, mu, di, ad, ky⟩ R) di := ⟨_, rfl⟩
          rw [← hN, ← hDn] at HBK2 ⊢
          have HN := Hid.mk hN
          have HDN := Hid.mk hDn
          clear hN hDn hRW
          have HAa := Hid.mk (rd_B wa nm N D)
          have HZa := Hid.mk (rd_at wa nm N D)
          have HGb := Hid.mk (HGa.out.kept HAa.out)
          have HDb := Hid.mk (isBytes_below HDa.out HAa.out)
          unfold rdC at HAa HZa HGb HDb
          unfold rdV
          obtain ⟨⟨q0, q1, q2⟩, -, -, -⟩ := HZa.out.cells
          by_cases hb1 : (1099511627776 : Int) < N
          · clear q0 q1 q2
            go_wp2_with fail
            go_ret
            exact ⟨by first | rfl | simp, bl2 HBa.out HAa.out⟩
          by_cases hb2 : N < (-1099511627776 : Int)
          · clear q0 q1 q2
            go_wp2_with fail
            go_ret
            exact ⟨by first | rfl | simp, bl2 HBa.out HAa.out⟩
          obtain ⟨hX0, hV0⟩ := HBK2.out (by omega) (by omega)
          have HX0 := Hid.mk hX0
          have HV0 := Hid.mk hV0
          have hb1' : N ≤ 1099511627776 := by omega
          have hb2' : (-1099511627776 : Int) ≤ N := by omega
          clear hX0 hV0 hb1 hb2 HBK2
          obtain ⟨c0, c1, c2, c3, c4, c5, c6, c7, c8⟩ := HGb.out
          simp only at c0 c1 c2 c3 c4 c5 c6 c7 c8
          go_wp2_with fail
          obtain ⟨wb, hwb⟩ : ∃ wb, wb = wa.alloc (.cells #[.string nm, .int .i64 N, .int .i64 D] 30) := ⟨_, rfl⟩
          rw [← hwb] at HAa HZa HGb HDb c0 c1 c2 c3 c4 c5 c6 c7 c8 ⊢
          have HWB := Hid.mk (show wb.heap.size = wa.heap.size + 1 by rw [hwb]; simp)
          clear hwb q0 q1 q2
          obtain ⟨⟨q0, q1, q2⟩, -, -, -⟩ := HZa.out.cells
          have hS0 : SSd wb.drew w.heap.size wa.heap.size nm sta sza bk sg mu di ad ky N D := ⟨c0, c1, c2, c3, c4, c5, c6, c7, c8, q1, q2⟩
          obtain ⟨ZO, hZO⟩ : ∃ ZO : Obj, ZO = .cells (madeCells #[.int .u8 0] len) 5 := ⟨_, rfl⟩
          have hmk : ∀ W, (Instr.makeSlice 24 (.int .i64 (len : Int)) (.int .i64 (len : Int))).run Try.prog W = .ok (.slice (some ⟨W.heap.size, 0, none⟩) len len) (W.alloc ZO) := by
            intro W
            rw [hZO]
            exact run_make_row' 24 5 (.int .u8 0) 1 Try.underlying24 info_u8B rfl .i64 .i64 len (by omega) (by omega) W
          have HZO := Hid.mk (fun W : World => (show IsBytes (W.alloc ZO) (some ⟨W.heap.size, 0, none⟩) len len (List.replicate len 0) by rw [hZO]; exact zeros_at W len hl64))
          have HZB := Hid.mk (fun W : World => (show Below W.heap.size W (W.alloc ZO) from (Below.refl _ _).alloc (Nat.le_refl _) _))
          clear hZO
          have hS1 := SS_kept (show SSd wb w.heap.size wa.heap.size nm sta sza bk sg mu di ad ky N D from hS0) (bl2 (HZB.out wb) (dwS _))
          have HZX := Hid.mk (isBytes_below (HZO.out wb) (dwS _))
          go_region_held3 (fun w' => w'.cell? ⟨w.heap.size, 0, none⟩ = some (.string nm) ∧ w'.cell? ⟨w.heap.size, 1, none⟩ = some (.int .i64 sta) ∧ w'.cell? ⟨w.heap.size, 2, none⟩ = some (.int .i64 sza) ∧ w'.cell? ⟨w.heap.size, 3, none⟩ = some (.bool bk) ∧ w'.cell? ⟨w.heap.size, 4, none⟩ = some (.bool sg) ∧ w'.cell? ⟨w.heap.size, 5, none⟩ = some (.int .i64 mu) ∧ w'.cell? ⟨w.heap.size, 6, none⟩ = some (.int .i64 di) ∧ w'.cell? ⟨w.heap.size, 7, none⟩ = some (.int .i64 ad) ∧ w'.cell? ⟨w.heap.size, 8, none⟩ = some (.int .i64 ky) ∧ w'.cell? ⟨wa.heap.size, 1, none⟩ = some (.int .i64 N) ∧ w'.cell? ⟨wa.heap.size, 2, none⟩ = some (.int .i64 D)) (first | exact hS0 | exact hS1 | exact hS2) (first
            | (go_at_call 5; with_reducible refine (HW3.out N D _ _ _ _ HZX.out HX0.out).mono ?_; rintro e wc ⟨g1, k1, rfl, hown1, hbc⟩
               have hS2 := SS_kept hS1 hbc
               have HOc := Hid.mk (isBytes_own hown1)
               have HBc := Hid.mk (bl2 (HZB.out wb) (bl2 (dwS _) hbc))
               clear hown1 hbc))
          have HDc := Hid.mk (isBytes_below HDb.out HBc.out)
          have HZc := Hid.mk (HZa.out.kept HBc.out)
          have HOx := HOc.out
          rw [HV0.out] at HOx
          have HXB := Hid.mk HOx
          have HQX := Hid.mk (HZR.out (List.replicate len 0) List.length_replicate)
          obtain ⟨d0, d1, d2, d3, d4, d5, d6, d7, d8, d9, d10⟩ := hS2
          clear HOx hS0 hS1 q0 q1 q2 c0 c1 c2 c3 c4 c5 c6 c7 c8
          go_wp2_with fail
          with_reducible refine (HW3.out N D _ _ _ _ HDc.out HX0.out).mono ?_
          rintro e wd ⟨g2, k2, rfl, hown2, hbd⟩
          have hY := isBytes_own hown2
          rw [HV0.out, HWR2.out] at hY
          have HYd := Hid.mk hY
          have HXd := Hid.mk (isBytes_below HXB.out hbd)
          have HDd := Hid.mk (isBytes_below HDc.out hbd)
          have HZd := Hid.mk (HZc.out.kept hbd)
          have HBd := Hid.mk (bl2 HBc.out hbd)
          obtain ⟨e0, e1, e2, e3, e4, e5, e6, e7, e8⟩ := (HGb.out.kept HBd.out)
          simp only at e0 e1 e2 e3 e4 e5 e6 e7 e8
          clear hY hown2 hbd d0 d1 d2 d3 d4 d5 d6 d7 d8 d9 d10
          have hR4 := HR3.out _ _ _ wd HXd.out
          rw [HQX.out] at hR4
          rw [← HN.out, ← HDN.out] at hR4
          unfold rdV at hR4
          have HR4 := Hid.mk hR4
          clear hR4
          go_wp2_with fail
          with_reducible refine HR4.out.mono ?_
          rintro e we ⟨rfl, hbe⟩
          have HBe := Hid.mk (bl2 HBd.out hbe)
          have HYe := Hid.mk (isBytes_below HYd.out hbe)
          have HDe := Hid.mk (isBytes_below HDd.out hbe)
          have HZe := Hid.mk (HZd.out.kept hbe)
          have HAe := Hid.mk (rd_B we nm N D)
          have HVe := Hid.mk (rd_at we nm N D)
          have HQe := Hid.mk (equalB_true (we.alloc (rdC nm N D)) (some ⟨g2, 0, none⟩) a len k2 cap l (by unfold maxLen; omega) (hasB (isBytes_below HYe.out HAe.out)) (hasB (isBytes_below HDe.out HAe.out)))
          have HZf := Hid.mk (HZe.out.kept HAe.out)
          unfold rdC at HAe HVe HQe HZf
          clear hbe e0 e1 e2 e3 e4 e5 e6 e7 e8 HR4
          go_wp2_with fail
          with_reducible refine HQe.out.mono ?_
          rintro e wf ⟨rfl, hbf⟩
          obtain ⟨⟨u0, u1, u2⟩, -, -, -⟩ := (HZf.out.kept hbf).cells
          obtain ⟨⟨v0, v1, v2⟩, -, -, -⟩ := (HVe.out.kept hbf).cells
          have HBf := Hid.mk (bl2 (bl2 HBa.out HAa.out) (bl2 HBe.out (bl2 HAe.out hbf)))
          clear hbf
          go_wp2_with fail
          go_ret
          exact ⟨by first | rfl | simp, HBf.out⟩
end Bw
end Go.Proofs.Ytgknolliicachaa
