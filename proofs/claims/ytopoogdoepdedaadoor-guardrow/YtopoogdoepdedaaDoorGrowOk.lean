/- GuardRow: what is put with one counter after the other is good, seen twice the same, with a bit turned broken. -/
import Derived.Test.YtopoogdoepdedaaDoorGrowBad
import Derived.RegionTactic
import Derived.BigRegion
namespace Go.Proofs.YtopoogdoepdedaaDoor
open Go.ChangeShapes Go.WideShapes Go.ChangeAt Go.RowKit Go.Sort
namespace Bw
open Bm Cm
set_option maxHeartbeats 32000000 in
set_option maxRecDepth 100000 in
theorem grow_ok_in (key : Nat) (a : Option Addr) (len cap : Nat) (l : List UInt8) (n bit : Int) (w : World) (hR : RulesAt w) (hD : IsBytes w a len cap l) (hkey : key ≤ 65535) (h2 : 2 ≤ len) (h64 : len ≤ 64) (hn : 0 ≤ n ∧ n ≤ 40) :
    Calls Tryd.prog 4 #[.int .i64 key, .slice a len cap, .int .i64 n, .int .i64 bit] w fun e w' => e = .returned (.bool true) ∧ Below w.heap.size w w' := by
  have HA := Hid.mk (awG w (gdC key (-1) 0 0))
  have HG0 := Hid.mk (gd0 w key)
  have HPUT := Hid.mk (fun (c : Nat) (hc : c ≤ 14) W (h : Below w.heap.size w W) => put_ok key c a len cap l W (hR.kept h) (isBytes_below hD h) hkey hc h2 h64)
  have HGD := Hid.mk (fun W (h : Below w.heap.size w W) => guarded_any W (hR.kept h))
  have HRR := Hid.mk (fun W (h : Below w.heap.size w W) => hR.kept h)
  have HLL := Hid.mk hD.1
  have HK := Hid.mk hkey
  unfold gdC at HA HG0
  clear hR hD hkey
  obtain ⟨N, hN⟩ : ∃ N : Nat, n = (N : Int) := ⟨n.toNat, by omega⟩
  subst hN
  have hN0 : ¬ ((N : Int) < 0) := by omega
  have hN1 : ¬ ((40 : Int) < (N : Int)) := by omega
  have hN40 : (N : Int) ≤ 40 := by omega
  clear hn
  go_enter Tryd.func4, Tryd.ntmps4
  go_wp2_with fail
  go_loopw [27] (fun i wr => ∃ k : Nat, k ≤ N ∧ i = .int .i64 k ∧ Hid (GdAt wr w.heap.size key (gLast k) 0 (gSt k)) ∧ Hid (Below w.heap.size w wr)) (fun i _ => N - (intOf i).toNat)
  case atStart => exact ⟨0, Nat.zero_le _, rfl, HG0, HA⟩
  case round =>
    obtain ⟨k, hk, rfl, HG, HBr⟩ := hrel
    by_cases hlt : k < N
    · have hlt' : (k : Int) < (N : Int) := by omega
      have hk40 : (k : Int) ≤ 40 := by omega
      have hrem : IntKind.i64.wrap ((k : Int).tmod 15) = ((k % 15 : Nat) : Int) := by
        rw [Int.tmod_eq_emod_of_nonneg (by omega), IntKind.wrap_i64]; omega
      have hrem2 : (k : Int) % 15 = ((k % 15 : Nat) : Int) := by omega
      obtain ⟨b0, b1⟩ := gLast_b k
      have hst := gSt_b k
      have hnx := gLast_next k
      have HSL := Hid.mk (gLast_succ k)
      have HSS := Hid.mk (gSt_succ k)
      have hr14 : k % 15 ≤ 14 := by omega
      obtain ⟨r, hr⟩ : ∃ r : Nat, k % 15 = r := ⟨_, rfl⟩
      rw [hr] at hrem hrem2 hnx HSL hr14
      have HPK := Hid.mk (HPUT.out r hr14 wr HBr.out)
      obtain ⟨L, hL⟩ : ∃ L, putL key r l = L := ⟨_, rfl⟩
      have hLl : L.length = len := by rw [← hL, putL_len]; exact HLL.out
      have e0 : (L.getD 0 0).toNat = gSum key L := by rw [← hL]; exact putL_at0 (by rw [HLL.out]; omega) key r
      have e1 : (L.getD 1 0).toNat % 16 = r := by rw [← hL, putL_at1 (by rw [HLL.out]; omega) key (show r < 16 by omega), ctr_mod (by omega)]
      rw [hL] at HPK
      have HSE1 := Hid.mk (fun g c W (h : Below w.heap.size w W) (hY : IsBytes W (some ⟨g, 0, none⟩) len c L) => see_good key (gLast k) 0 (gSt k) 1 r (some ⟨g, 0, none⟩) len c L W (HRR.out W h) hY h2 h64 HK.out b0 b1 (by omega) hst ⟨by omega, by omega⟩ e0 e1 hr14 hnx)
      have HSE2 := Hid.mk (fun g c W (h : Below w.heap.size w W) (hY : IsBytes W (some ⟨g, 0, none⟩) len c L) => see_same key (r : Int) 0 1 1 r (some ⟨g, 0, none⟩) len c L W (HRR.out W h) hY h2 h64 HK.out (by omega) (by omega) (by omega) ⟨by omega, by omega⟩ ⟨by omega, by omega⟩ e0 e1 hr14 rfl)
      have HSE3 := Hid.mk (fun g c L' W (h : Below w.heap.size w W) (hY : IsBytes W (some ⟨g, 0, none⟩) len c L') (hw : (L'.getD 0 0).toNat ≠ gSum key L') => see_broken key (r : Int) 0 1 14 (some ⟨g, 0, none⟩) len c L' W (HRR.out W h) hY h2 h64 HK.out (by omega) (by omega) (by omega) ⟨by omega, by omega⟩ ⟨by omega, by omega⟩ hw (by omega))
      have HTW := Hid.mk (fun j y (hj : j < len) (hy : y < 256) (hne : y ≠ (L.getD j 0).toNat) => turned_wrong (key := key) (L := L) (j := j) (y := y) e0 (by omega) hy hne)
      have HLn := Hid.mk hLl
      unfold gdV at HSE1 HSE2 HSE3
      have hlen64 : (len : Int) ≤ 64 := by omega
      have HGx := Hid.mk (fun W (h : Below wr.heap.size wr W) => HG.out.kept h)
      clear hr hL hLl e0 e1 b0 b1 hst hnx HPUT
      generalize gLast k = LA at *
      generalize gSt k = ST at *
      go_wp2_with fail
      refine HPK.out.mono ?_
      rintro e w1 ⟨g, c, rfl, hown, hg, hb1⟩
      have HB1 := Hid.mk (bl2 HBr.out hb1)
      have HG1 := Hid.mk (HGx.out _ hb1)
      have HO1 := Hid.mk hown
      have HGG : Hid (w.heap.size < g) := Hid.mk (by have := HG.out.lt; omega)
      have HS1 := Hid.mk (HSE1.out g c w1 HB1.out (isBytes_ownG hown))
      obtain ⟨⟨a0, a1, a2, a3⟩, -⟩ := HG1.out.cells
      clear hown hg hb1 HPK HGx HG HSE1
      go_wp2_with fail
      refine HS1.out.mono ?_
      rintro e w2 ⟨rfl, hb2⟩
      have HA2 := Hid.mk (awG w2 (gdC key r 0 1))
      have HX2 : Hid (GdAt (w2.alloc (gdC key r 0 1)) w2.heap.size key r 0 1) := Hid.mk (heap_alloc_new w2 _)
      have HB2 := Hid.mk (bl2 HB1.out (bl2 hb2 HA2.out))
      have HO2 := Hid.mk (ownsRow_below HO1.out (bl2 hb2 HA2.out))
      have HG2 := Hid.mk (HG1.out.kept (bl2 hb2 HA2.out))
      have HS2 := Hid.mk (HSE2.out g c _ HB2.out (isBytes_ownG HO2.out))
      have HGX : Hid (w.heap.size < w2.heap.size) := Hid.mk (by have := HB1.out.size; have := hb2.size; have := HG1.out.lt; omega)
      unfold gdC at HX2 HB2 HO2 HG2 HS2
      clear hb2 HA2 HS1 HB1 HO1 HG1 HSE2 a0 a1 a2 a3
      go_wp2_with fail
      refine HS2.out.mono ?_
      rintro e w3 ⟨rfl, hb3⟩
      have HA3 := Hid.mk (awG w3 (gdC key r 0 3))
      have HB3 := Hid.mk (bl2 HB2.out (bl2 hb3 HA3.out))
      have HX3 := Hid.mk (HX2.out.kept (bl2 hb3 HA3.out))
      have HG3 := Hid.mk (HG2.out.kept (bl2 hb3 HA3.out))
      have HO3 := Hid.mk (ownsRow_below HO2.out (bl2 hb3 HA3.out))
      unfold gdC at HB3 HX3 HG3 HO3
      obtain ⟨⟨x0, x1, x2, x3⟩, -⟩ := HX3.out.cells
      obtain ⟨⟨z0, z1, z2, z3⟩, y0, y1, y2, y3⟩ := HG3.out.cells
      obtain ⟨⟨p1, q1⟩, ⟨p2, q2⟩, ⟨p3, q3⟩, hSX⟩ := HG3.out.store (key : Int) (r : Int) 0 1
      have HSX := Hid.mk hSX
      have HB4 := Hid.mk (gd_set HB3.out (Nat.le_refl _) (.int .i64 (key : Int)) (.int .i64 (r : Int)) (.int .i64 0) (.int .i64 1))
      have HO4 := Hid.mk (ownsG_keep HO3.out (gd_block _ w.heap.size g (by have := HGG.out; omega) (.int .i64 (key : Int)) (.int .i64 (r : Int)) (.int .i64 0) (.int .i64 1)))
      clear hb3 HA3 HS2 HB2 HX2 HG2 HO2 hSX
      by_cases hbit : 0 ≤ bit ∧ bit < 8 * (len : Int)
      · obtain ⟨p, hp⟩ : ∃ p : Nat, bit = (p : Int) := ⟨bit.toNat, by omega⟩
        subst hp
        have hp8 : ((p : Int) / 8).toNat = p / 8 := by omega
        have hp9 : ((p : Int) % 8).toNat = p % 8 := by omega
        have hpl' : (p : Int) < 8 * (len : Int) := hbit.2
        have hp0 : (0 : Int) ≤ (p : Int) := by omega
        have hdv : p / 8 < len := by omega
        obtain ⟨y, hy⟩ : ∃ y, (L.getD (p / 8) 0).toNat = y := ⟨_, rfl⟩
        have hy256 : y < 256 := by rw [← hy]; exact UInt8.toNat_lt _
        obtain ⟨hop, hx256, hxne⟩ := xor_op hy256 (show p % 8 < 8 by omega)
        have hwr := HTW.out (p / 8) (y ^^^ 2 ^ (p % 8)) hdv hx256 (by rw [hy]; exact hxne)
        have hset := cells_setG L (p / 8) (y ^^^ 2 ^ (p % 8)) hx256
        have hat := cells_atG L (p / 8) (by rw [HLn.out]; exact hdv)
        rw [hy] at hat
        generalize y ^^^ 2 ^ (p % 8) = yx at *
        have HWR := Hid.mk hwr
        have HSET := Hid.mk hset
        have HAT := Hid.mk hat
        have hy' : (y : Int) ≤ 255 := by omega
        have hyx' : (yx : Int) ≤ 255 := by omega
        clear hy hy256 hx256 hxne hwr hset hat hbit HTW
        generalize L.set (p / 8) (UInt8.ofNat yx) = LX at *
        go_wp2_with fail
        obtain ⟨W4, hW4⟩ : ∃ W4, W4 = (((((w3.alloc (.cells #[.int .i64 (key : Int), .int .i64 (r : Int), .int .i64 0, .int .i64 3] 32)).setCell ⟨w.heap.size, 0, none⟩ (.int .i64 (key : Int))).setCell ⟨w.heap.size, 1, none⟩ (.int .i64 (r : Int))).setCell ⟨w.heap.size, 2, none⟩ (.int .i64 0)).setCell ⟨w.heap.size, 3, none⟩ (.int .i64 1)) := ⟨_, rfl⟩
        rw [← hW4] at HB4 HO4 HSX ⊢
        clear hW4 x0 x1 x2 x3 z0 z1 z2 z3 y0 y1 y2 y3 p1 q1 p2 q2 p3 q3 HB3 HG3 HX3 HO3
        have hc4 := HO4.out.cellAt (p / 8) (by omega)
        have hf4 := HO4.out.frozenAt (p / 8)
        rw [HAT.out] at hc4
        have hstd := HO4.out.stored (p / 8) (.int .u8 (yx : Int))
        rw [HSET.out] at hstd
        have HST := Hid.mk hstd
        clear hstd
        go_region
        obtain ⟨W5, hW5⟩ : ∃ W5, W5 = (W4.setCell ⟨g, p / 8, none⟩ (.int .u8 (yx : Int))).drew := ⟨_, rfl⟩
        rw [← hW5]
        have HB5 := Hid.mk (show Below w.heap.size w W5 by rw [hW5]; exact (HB4.out.grown HST.out.2 HB4.out.size (fun q hq => by cases hq; have := HGG.out; omega)).drew)
        have HO5 := Hid.mk (show IsBytes W5 (some ⟨g, 0, none⟩) len c LX by rw [hW5]; exact isBytes_ownG (ownsRow_below HST.out.1 (dwG _)))
        have HG5 := Hid.mk (show GdAt W5 w.heap.size key r 0 1 by
          rw [hW5]
          refine GdAt.kept ?_ (dwG _)
          unfold GdAt
          rw [Below.heap_setCell _ _ _ _ (show w.heap.size ≠ g by have := HGG.out; omega)]
          exact HSX.out)
        have HS5 := Hid.mk (HSE3.out g c LX W5 HB5.out HO5.out HWR.out)
        obtain ⟨⟨a0, a1, a2, a3⟩, -⟩ := HG5.out.cells
        clear hW5 hc4 hf4 HST HB4 HO4 HSX HSE3
        go_wp2_with fail
        refine HS5.out.mono ?_
        rintro e w6 ⟨rfl, hb6⟩
        have HA6 := Hid.mk (awG w6 (gdC key r (0 + 1) 4))
        have HB6 := Hid.mk (bl2 HB5.out (bl2 hb6 HA6.out))
        have HG6 := Hid.mk (HG5.out.kept (bl2 hb6 HA6.out))
        unfold gdC at HB6 HG6
        clear hb6 HA6 HS5 HB5 HG5 HO5 a0 a1 a2 a3
        go_wp2_with fail
        go_roundw
        case rel => exact ⟨k + 1, by omega, by go_num, Hid.mk (by rw [HSL.out, HSS.out]; exact HG6.out), HB6⟩
        case measure => simp [intOf]; omega
      · by_cases hbit0 : 0 ≤ bit
        · have hbit1 : ¬ (bit < 8 * (len : Int)) := fun h => hbit ⟨hbit0, h⟩
          clear hbit
          go_wp2_with fail
          go_roundw
          case rel => exact ⟨k + 1, by omega, by go_num, Hid.mk (by rw [HSL.out, HSS.out]; exact HSX.out), HB4⟩
          case measure => simp [intOf]; omega
        · clear hbit
          go_wp2_with fail
          go_roundw
          case rel => exact ⟨k + 1, by omega, by go_num, Hid.mk (by rw [HSL.out, HSS.out]; exact HSX.out), HB4⟩
          case measure => simp [intOf]; omega
    · have e : k = N := by omega
      subst e
      go_wp2_with fail
      refine (HGD.out _ HBr.out).mono ?_
      rintro e w2 ⟨rfl, hb2⟩
      have HB2 := Hid.mk (bl2 HBr.out hb2)
      clear hb2
      go_wp2_with fail
      go_ret
      exact ⟨rfl, HB2.out⟩
set_option maxHeartbeats 32000000 in
set_option maxRecDepth 100000 in
theorem grow_ok_neg (key : Nat) (a : Option Addr) (len cap : Nat) (l : List UInt8) (n bit : Int) (w : World) (hR : RulesAt w) (hD : IsBytes w a len cap l) (hkey : key ≤ 65535) (h2 : 2 ≤ len) (h64 : len ≤ 64) (hn : n < 0) :
    Calls Tryd.prog 4 #[.int .i64 key, .slice a len cap, .int .i64 n, .int .i64 bit] w fun e w' => e = .returned (.bool true) ∧ Below w.heap.size w w' := by
  have HA := Hid.mk (awG w (gdC key (-1) 0 0))
  have HG0 := Hid.mk (gd0 w key)
  have HPUT := Hid.mk (fun (c : Nat) (hc : c ≤ 14) W (h : Below w.heap.size w W) => put_ok key c a len cap l W (hR.kept h) (isBytes_below hD h) hkey hc h2 h64)
  have HGD := Hid.mk (fun W (h : Below w.heap.size w W) => guarded_any W (hR.kept h))
  have HRR := Hid.mk (fun W (h : Below w.heap.size w W) => hR.kept h)
  have HLL := Hid.mk hD.1
  have HK := Hid.mk hkey
  unfold gdC at HA HG0
  clear hR hD hkey
  obtain ⟨N, hN⟩ : ∃ N : Nat, N = 20 := ⟨20, rfl⟩
  have HNN : Hid ((20 : Int) = (N : Int)) := Hid.mk (by omega)
  have hN40 : (N : Int) ≤ 40 := by omega
  clear hN
  go_enter Tryd.func4, Tryd.ntmps4
  go_wp2_with fail
  rw [HNN.out]
  go_loopw [27] (fun i wr => ∃ k : Nat, k ≤ N ∧ i = .int .i64 k ∧ Hid (GdAt wr w.heap.size key (gLast k) 0 (gSt k)) ∧ Hid (Below w.heap.size w wr)) (fun i _ => N - (intOf i).toNat)
  case atStart => exact ⟨0, Nat.zero_le _, rfl, HG0, HA⟩
  case round =>
    obtain ⟨k, hk, rfl, HG, HBr⟩ := hrel
    by_cases hlt : k < N
    · have hlt' : (k : Int) < (N : Int) := by omega
      have hk40 : (k : Int) ≤ 40 := by omega
      have hrem : IntKind.i64.wrap ((k : Int).tmod 15) = ((k % 15 : Nat) : Int) := by
        rw [Int.tmod_eq_emod_of_nonneg (by omega), IntKind.wrap_i64]; omega
      have hrem2 : (k : Int) % 15 = ((k % 15 : Nat) : Int) := by omega
      obtain ⟨b0, b1⟩ := gLast_b k
      have hst := gSt_b k
      have hnx := gLast_next k
      have HSL := Hid.mk (gLast_succ k)
      have HSS := Hid.mk (gSt_succ k)
      have hr14 : k % 15 ≤ 14 := by omega
      obtain ⟨r, hr⟩ : ∃ r : Nat, k % 15 = r := ⟨_, rfl⟩
      rw [hr] at hrem hrem2 hnx HSL hr14
      have HPK := Hid.mk (HPUT.out r hr14 wr HBr.out)
      obtain ⟨L, hL⟩ : ∃ L, putL key r l = L := ⟨_, rfl⟩
      have hLl : L.length = len := by rw [← hL, putL_len]; exact HLL.out
      have e0 : (L.getD 0 0).toNat = gSum key L := by rw [← hL]; exact putL_at0 (by rw [HLL.out]; omega) key r
      have e1 : (L.getD 1 0).toNat % 16 = r := by rw [← hL, putL_at1 (by rw [HLL.out]; omega) key (show r < 16 by omega), ctr_mod (by omega)]
      rw [hL] at HPK
      have HSE1 := Hid.mk (fun g c W (h : Below w.heap.size w W) (hY : IsBytes W (some ⟨g, 0, none⟩) len c L) => see_good key (gLast k) 0 (gSt k) 1 r (some ⟨g, 0, none⟩) len c L W (HRR.out W h) hY h2 h64 HK.out b0 b1 (by omega) hst ⟨by omega, by omega⟩ e0 e1 hr14 hnx)
      have HSE2 := Hid.mk (fun g c W (h : Below w.heap.size w W) (hY : IsBytes W (some ⟨g, 0, none⟩) len c L) => see_same key (r : Int) 0 1 1 r (some ⟨g, 0, none⟩) len c L W (HRR.out W h) hY h2 h64 HK.out (by omega) (by omega) (by omega) ⟨by omega, by omega⟩ ⟨by omega, by omega⟩ e0 e1 hr14 rfl)
      have HSE3 := Hid.mk (fun g c L' W (h : Below w.heap.size w W) (hY : IsBytes W (some ⟨g, 0, none⟩) len c L') (hw : (L'.getD 0 0).toNat ≠ gSum key L') => see_broken key (r : Int) 0 1 14 (some ⟨g, 0, none⟩) len c L' W (HRR.out W h) hY h2 h64 HK.out (by omega) (by omega) (by omega) ⟨by omega, by omega⟩ ⟨by omega, by omega⟩ hw (by omega))
      have HTW := Hid.mk (fun j y (hj : j < len) (hy : y < 256) (hne : y ≠ (L.getD j 0).toNat) => turned_wrong (key := key) (L := L) (j := j) (y := y) e0 (by omega) hy hne)
      have HLn := Hid.mk hLl
      unfold gdV at HSE1 HSE2 HSE3
      have hlen64 : (len : Int) ≤ 64 := by omega
      have HGx := Hid.mk (fun W (h : Below wr.heap.size wr W) => HG.out.kept h)
      clear hr hL hLl e0 e1 b0 b1 hst hnx HPUT
      generalize gLast k = LA at *
      generalize gSt k = ST at *
      go_wp2_with fail
      refine HPK.out.mono ?_
      rintro e w1 ⟨g, c, rfl, hown, hg, hb1⟩
      have HB1 := Hid.mk (bl2 HBr.out hb1)
      have HG1 := Hid.mk (HGx.out _ hb1)
      have HO1 := Hid.mk hown
      have HGG : Hid (w.heap.size < g) := Hid.mk (by have := HG.out.lt; omega)
      have HS1 := Hid.mk (HSE1.out g c w1 HB1.out (isBytes_ownG hown))
      obtain ⟨⟨a0, a1, a2, a3⟩, -⟩ := HG1.out.cells
      clear hown hg hb1 HPK HGx HG HSE1
      go_wp2_with fail
      refine HS1.out.mono ?_
      rintro e w2 ⟨rfl, hb2⟩
      have HA2 := Hid.mk (awG w2 (gdC key r 0 1))
      have HX2 : Hid (GdAt (w2.alloc (gdC key r 0 1)) w2.heap.size key r 0 1) := Hid.mk (heap_alloc_new w2 _)
      have HB2 := Hid.mk (bl2 HB1.out (bl2 hb2 HA2.out))
      have HO2 := Hid.mk (ownsRow_below HO1.out (bl2 hb2 HA2.out))
      have HG2 := Hid.mk (HG1.out.kept (bl2 hb2 HA2.out))
      have HS2 := Hid.mk (HSE2.out g c _ HB2.out (isBytes_ownG HO2.out))
      have HGX : Hid (w.heap.size < w2.heap.size) := Hid.mk (by have := HB1.out.size; have := hb2.size; have := HG1.out.lt; omega)
      unfold gdC at HX2 HB2 HO2 HG2 HS2
      clear hb2 HA2 HS1 HB1 HO1 HG1 HSE2 a0 a1 a2 a3
      go_wp2_with fail
      refine HS2.out.mono ?_
      rintro e w3 ⟨rfl, hb3⟩
      have HA3 := Hid.mk (awG w3 (gdC key r 0 3))
      have HB3 := Hid.mk (bl2 HB2.out (bl2 hb3 HA3.out))
      have HX3 := Hid.mk (HX2.out.kept (bl2 hb3 HA3.out))
      have HG3 := Hid.mk (HG2.out.kept (bl2 hb3 HA3.out))
      have HO3 := Hid.mk (ownsRow_below HO2.out (bl2 hb3 HA3.out))
      unfold gdC at HB3 HX3 HG3 HO3
      obtain ⟨⟨x0, x1, x2, x3⟩, -⟩ := HX3.out.cells
      obtain ⟨⟨z0, z1, z2, z3⟩, y0, y1, y2, y3⟩ := HG3.out.cells
      obtain ⟨⟨p1, q1⟩, ⟨p2, q2⟩, ⟨p3, q3⟩, hSX⟩ := HG3.out.store (key : Int) (r : Int) 0 1
      have HSX := Hid.mk hSX
      have HB4 := Hid.mk (gd_set HB3.out (Nat.le_refl _) (.int .i64 (key : Int)) (.int .i64 (r : Int)) (.int .i64 0) (.int .i64 1))
      have HO4 := Hid.mk (ownsG_keep HO3.out (gd_block _ w.heap.size g (by have := HGG.out; omega) (.int .i64 (key : Int)) (.int .i64 (r : Int)) (.int .i64 0) (.int .i64 1)))
      clear hb3 HA3 HS2 HB2 HX2 HG2 HO2 hSX
      by_cases hbit : 0 ≤ bit ∧ bit < 8 * (len : Int)
      · obtain ⟨p, hp⟩ : ∃ p : Nat, bit = (p : Int) := ⟨bit.toNat, by omega⟩
        subst hp
        have hp8 : ((p : Int) / 8).toNat = p / 8 := by omega
        have hp9 : ((p : Int) % 8).toNat = p % 8 := by omega
        have hpl' : (p : Int) < 8 * (len : Int) := hbit.2
        have hp0 : (0 : Int) ≤ (p : Int) := by omega
        have hdv : p / 8 < len := by omega
        obtain ⟨y, hy⟩ : ∃ y, (L.getD (p / 8) 0).toNat = y := ⟨_, rfl⟩
        have hy256 : y < 256 := by rw [← hy]; exact UInt8.toNat_lt _
        obtain ⟨hop, hx256, hxne⟩ := xor_op hy256 (show p % 8 < 8 by omega)
        have hwr := HTW.out (p / 8) (y ^^^ 2 ^ (p % 8)) hdv hx256 (by rw [hy]; exact hxne)
        have hset := cells_setG L (p / 8) (y ^^^ 2 ^ (p % 8)) hx256
        have hat := cells_atG L (p / 8) (by rw [HLn.out]; exact hdv)
        rw [hy] at hat
        generalize y ^^^ 2 ^ (p % 8) = yx at *
        have HWR := Hid.mk hwr
        have HSET := Hid.mk hset
        have HAT := Hid.mk hat
        have hy' : (y : Int) ≤ 255 := by omega
        have hyx' : (yx : Int) ≤ 255 := by omega
        clear hy hy256 hx256 hxne hwr hset hat hbit HTW
        generalize L.set (p / 8) (UInt8.ofNat yx) = LX at *
        go_wp2_with fail
        obtain ⟨W4, hW4⟩ : ∃ W4, W4 = (((((w3.alloc (.cells #[.int .i64 (key : Int), .int .i64 (r : Int), .int .i64 0, .int .i64 3] 32)).setCell ⟨w.heap.size, 0, none⟩ (.int .i64 (key : Int))).setCell ⟨w.heap.size, 1, none⟩ (.int .i64 (r : Int))).setCell ⟨w.heap.size, 2, none⟩ (.int .i64 0)).setCell ⟨w.heap.size, 3, none⟩ (.int .i64 1)) := ⟨_, rfl⟩
        rw [← hW4] at HB4 HO4 HSX ⊢
        clear hW4 x0 x1 x2 x3 z0 z1 z2 z3 y0 y1 y2 y3 p1 q1 p2 q2 p3 q3 HB3 HG3 HX3 HO3
        have hc4 := HO4.out.cellAt (p / 8) (by omega)
        have hf4 := HO4.out.frozenAt (p / 8)
        rw [HAT.out] at hc4
        have hstd := HO4.out.stored (p / 8) (.int .u8 (yx : Int))
        rw [HSET.out] at hstd
        have HST := Hid.mk hstd
        clear hstd
        go_region
        obtain ⟨W5, hW5⟩ : ∃ W5, W5 = (W4.setCell ⟨g, p / 8, none⟩ (.int .u8 (yx : Int))).drew := ⟨_, rfl⟩
        rw [← hW5]
        have HB5 := Hid.mk (show Below w.heap.size w W5 by rw [hW5]; exact (HB4.out.grown HST.out.2 HB4.out.size (fun q hq => by cases hq; have := HGG.out; omega)).drew)
        have HO5 := Hid.mk (show IsBytes W5 (some ⟨g, 0, none⟩) len c LX by rw [hW5]; exact isBytes_ownG (ownsRow_below HST.out.1 (dwG _)))
        have HG5 := Hid.mk (show GdAt W5 w.heap.size key r 0 1 by
          rw [hW5]
          refine GdAt.kept ?_ (dwG _)
          unfold GdAt
          rw [Below.heap_setCell _ _ _ _ (show w.heap.size ≠ g by have := HGG.out; omega)]
          exact HSX.out)
        have HS5 := Hid.mk (HSE3.out g c LX W5 HB5.out HO5.out HWR.out)
        obtain ⟨⟨a0, a1, a2, a3⟩, -⟩ := HG5.out.cells
        clear hW5 hc4 hf4 HST HB4 HO4 HSX HSE3
        go_wp2_with fail
        refine HS5.out.mono ?_
        rintro e w6 ⟨rfl, hb6⟩
        have HA6 := Hid.mk (awG w6 (gdC key r (0 + 1) 4))
        have HB6 := Hid.mk (bl2 HB5.out (bl2 hb6 HA6.out))
        have HG6 := Hid.mk (HG5.out.kept (bl2 hb6 HA6.out))
        unfold gdC at HB6 HG6
        clear hb6 HA6 HS5 HB5 HG5 HO5 a0 a1 a2 a3
        go_wp2_with fail
        go_roundw
        case rel => exact ⟨k + 1, by omega, by go_num, Hid.mk (by rw [HSL.out, HSS.out]; exact HG6.out), HB6⟩
        case measure => simp [intOf]; omega
      · by_cases hbit0 : 0 ≤ bit
        · have hbit1 : ¬ (bit < 8 * (len : Int)) := fun h => hbit ⟨hbit0, h⟩
          clear hbit
          go_wp2_with fail
          go_roundw
          case rel => exact ⟨k + 1, by omega, by go_num, Hid.mk (by rw [HSL.out, HSS.out]; exact HSX.out), HB4⟩
          case measure => simp [intOf]; omega
        · clear hbit
          go_wp2_with fail
          go_roundw
          case rel => exact ⟨k + 1, by omega, by go_num, Hid.mk (by rw [HSL.out, HSS.out]; exact HSX.out), HB4⟩
          case measure => simp [intOf]; omega
    · have e : k = N := by omega
      subst e
      go_wp2_with fail
      refine (HGD.out _ HBr.out).mono ?_
      rintro e w2 ⟨rfl, hb2⟩
      have HB2 := Hid.mk (bl2 HBr.out hb2)
      clear hb2
      go_wp2_with fail
      go_ret
      exact ⟨rfl, HB2.out⟩
set_option maxHeartbeats 32000000 in
set_option maxRecDepth 100000 in
theorem grow_ok_big (key : Nat) (a : Option Addr) (len cap : Nat) (l : List UInt8) (n bit : Int) (w : World) (hR : RulesAt w) (hD : IsBytes w a len cap l) (hkey : key ≤ 65535) (h2 : 2 ≤ len) (h64 : len ≤ 64) (hn : 40 < n) :
    Calls Tryd.prog 4 #[.int .i64 key, .slice a len cap, .int .i64 n, .int .i64 bit] w fun e w' => e = .returned (.bool true) ∧ Below w.heap.size w w' := by
  have HA := Hid.mk (awG w (gdC key (-1) 0 0))
  have HG0 := Hid.mk (gd0 w key)
  have HPUT := Hid.mk (fun (c : Nat) (hc : c ≤ 14) W (h : Below w.heap.size w W) => put_ok key c a len cap l W (hR.kept h) (isBytes_below hD h) hkey hc h2 h64)
  have HGD := Hid.mk (fun W (h : Below w.heap.size w W) => guarded_any W (hR.kept h))
  have HRR := Hid.mk (fun W (h : Below w.heap.size w W) => hR.kept h)
  have HLL := Hid.mk hD.1
  have HK := Hid.mk hkey
  unfold gdC at HA HG0
  clear hR hD hkey
  obtain ⟨N, hN⟩ : ∃ N : Nat, N = 20 := ⟨20, rfl⟩
  have HNN : Hid ((20 : Int) = (N : Int)) := Hid.mk (by omega)
  have hN40 : (N : Int) ≤ 40 := by omega
  have hN2 : ¬ (n < 0) := by omega
  clear hN
  go_enter Tryd.func4, Tryd.ntmps4
  go_wp2_with fail
  rw [HNN.out]
  go_loopw [27] (fun i wr => ∃ k : Nat, k ≤ N ∧ i = .int .i64 k ∧ Hid (GdAt wr w.heap.size key (gLast k) 0 (gSt k)) ∧ Hid (Below w.heap.size w wr)) (fun i _ => N - (intOf i).toNat)
  case atStart => exact ⟨0, Nat.zero_le _, rfl, HG0, HA⟩
  case round =>
    obtain ⟨k, hk, rfl, HG, HBr⟩ := hrel
    by_cases hlt : k < N
    · have hlt' : (k : Int) < (N : Int) := by omega
      have hk40 : (k : Int) ≤ 40 := by omega
      have hrem : IntKind.i64.wrap ((k : Int).tmod 15) = ((k % 15 : Nat) : Int) := by
        rw [Int.tmod_eq_emod_of_nonneg (by omega), IntKind.wrap_i64]; omega
      have hrem2 : (k : Int) % 15 = ((k % 15 : Nat) : Int) := by omega
      obtain ⟨b0, b1⟩ := gLast_b k
      have hst := gSt_b k
      have hnx := gLast_next k
      have HSL := Hid.mk (gLast_succ k)
      have HSS := Hid.mk (gSt_succ k)
      have hr14 : k % 15 ≤ 14 := by omega
      obtain ⟨r, hr⟩ : ∃ r : Nat, k % 15 = r := ⟨_, rfl⟩
      rw [hr] at hrem hrem2 hnx HSL hr14
      have HPK := Hid.mk (HPUT.out r hr14 wr HBr.out)
      obtain ⟨L, hL⟩ : ∃ L, putL key r l = L := ⟨_, rfl⟩
      have hLl : L.length = len := by rw [← hL, putL_len]; exact HLL.out
      have e0 : (L.getD 0 0).toNat = gSum key L := by rw [← hL]; exact putL_at0 (by rw [HLL.out]; omega) key r
      have e1 : (L.getD 1 0).toNat % 16 = r := by rw [← hL, putL_at1 (by rw [HLL.out]; omega) key (show r < 16 by omega), ctr_mod (by omega)]
      rw [hL] at HPK
      have HSE1 := Hid.mk (fun g c W (h : Below w.heap.size w W) (hY : IsBytes W (some ⟨g, 0, none⟩) len c L) => see_good key (gLast k) 0 (gSt k) 1 r (some ⟨g, 0, none⟩) len c L W (HRR.out W h) hY h2 h64 HK.out b0 b1 (by omega) hst ⟨by omega, by omega⟩ e0 e1 hr14 hnx)
      have HSE2 := Hid.mk (fun g c W (h : Below w.heap.size w W) (hY : IsBytes W (some ⟨g, 0, none⟩) len c L) => see_same key (r : Int) 0 1 1 r (some ⟨g, 0, none⟩) len c L W (HRR.out W h) hY h2 h64 HK.out (by omega) (by omega) (by omega) ⟨by omega, by omega⟩ ⟨by omega, by omega⟩ e0 e1 hr14 rfl)
      have HSE3 := Hid.mk (fun g c L' W (h : Below w.heap.size w W) (hY : IsBytes W (some ⟨g, 0, none⟩) len c L') (hw : (L'.getD 0 0).toNat ≠ gSum key L') => see_broken key (r : Int) 0 1 14 (some ⟨g, 0, none⟩) len c L' W (HRR.out W h) hY h2 h64 HK.out (by omega) (by omega) (by omega) ⟨by omega, by omega⟩ ⟨by omega, by omega⟩ hw (by omega))
      have HTW := Hid.mk (fun j y (hj : j < len) (hy : y < 256) (hne : y ≠ (L.getD j 0).toNat) => turned_wrong (key := key) (L := L) (j := j) (y := y) e0 (by omega) hy hne)
      have HLn := Hid.mk hLl
      unfold gdV at HSE1 HSE2 HSE3
      have hlen64 : (len : Int) ≤ 64 := by omega
      have HGx := Hid.mk (fun W (h : Below wr.heap.size wr W) => HG.out.kept h)
      clear hr hL hLl e0 e1 b0 b1 hst hnx HPUT
      generalize gLast k = LA at *
      generalize gSt k = ST at *
      go_wp2_with fail
      refine HPK.out.mono ?_
      rintro e w1 ⟨g, c, rfl, hown, hg, hb1⟩
      have HB1 := Hid.mk (bl2 HBr.out hb1)
      have HG1 := Hid.mk (HGx.out _ hb1)
      have HO1 := Hid.mk hown
      have HGG : Hid (w.heap.size < g) := Hid.mk (by have := HG.out.lt; omega)
      have HS1 := Hid.mk (HSE1.out g c w1 HB1.out (isBytes_ownG hown))
      obtain ⟨⟨a0, a1, a2, a3⟩, -⟩ := HG1.out.cells
      clear hown hg hb1 HPK HGx HG HSE1
      go_wp2_with fail
      refine HS1.out.mono ?_
      rintro e w2 ⟨rfl, hb2⟩
      have HA2 := Hid.mk (awG w2 (gdC key r 0 1))
      have HX2 : Hid (GdAt (w2.alloc (gdC key r 0 1)) w2.heap.size key r 0 1) := Hid.mk (heap_alloc_new w2 _)
      have HB2 := Hid.mk (bl2 HB1.out (bl2 hb2 HA2.out))
      have HO2 := Hid.mk (ownsRow_below HO1.out (bl2 hb2 HA2.out))
      have HG2 := Hid.mk (HG1.out.kept (bl2 hb2 HA2.out))
      have HS2 := Hid.mk (HSE2.out g c _ HB2.out (isBytes_ownG HO2.out))
      have HGX : Hid (w.heap.size < w2.heap.size) := Hid.mk (by have := HB1.out.size; have := hb2.size; have := HG1.out.lt; omega)
      unfold gdC at HX2 HB2 HO2 HG2 HS2
      clear hb2 HA2 HS1 HB1 HO1 HG1 HSE2 a0 a1 a2 a3
      go_wp2_with fail
      refine HS2.out.mono ?_
      rintro e w3 ⟨rfl, hb3⟩
      have HA3 := Hid.mk (awG w3 (gdC key r 0 3))
      have HB3 := Hid.mk (bl2 HB2.out (bl2 hb3 HA3.out))
      have HX3 := Hid.mk (HX2.out.kept (bl2 hb3 HA3.out))
      have HG3 := Hid.mk (HG2.out.kept (bl2 hb3 HA3.out))
      have HO3 := Hid.mk (ownsRow_below HO2.out (bl2 hb3 HA3.out))
      unfold gdC at HB3 HX3 HG3 HO3
      obtain ⟨⟨x0, x1, x2, x3⟩, -⟩ := HX3.out.cells
      obtain ⟨⟨z0, z1, z2, z3⟩, y0, y1, y2, y3⟩ := HG3.out.cells
      obtain ⟨⟨p1, q1⟩, ⟨p2, q2⟩, ⟨p3, q3⟩, hSX⟩ := HG3.out.store (key : Int) (r : Int) 0 1
      have HSX := Hid.mk hSX
      have HB4 := Hid.mk (gd_set HB3.out (Nat.le_refl _) (.int .i64 (key : Int)) (.int .i64 (r : Int)) (.int .i64 0) (.int .i64 1))
      have HO4 := Hid.mk (ownsG_keep HO3.out (gd_block _ w.heap.size g (by have := HGG.out; omega) (.int .i64 (key : Int)) (.int .i64 (r : Int)) (.int .i64 0) (.int .i64 1)))
      clear hb3 HA3 HS2 HB2 HX2 HG2 HO2 hSX
      by_cases hbit : 0 ≤ bit ∧ bit < 8 * (len : Int)
      · obtain ⟨p, hp⟩ : ∃ p : Nat, bit = (p : Int) := ⟨bit.toNat, by omega⟩
        subst hp
        have hp8 : ((p : Int) / 8).toNat = p / 8 := by omega
        have hp9 : ((p : Int) % 8).toNat = p % 8 := by omega
        have hpl' : (p : Int) < 8 * (len : Int) := hbit.2
        have hp0 : (0 : Int) ≤ (p : Int) := by omega
        have hdv : p / 8 < len := by omega
        obtain ⟨y, hy⟩ : ∃ y, (L.getD (p / 8) 0).toNat = y := ⟨_, rfl⟩
        have hy256 : y < 256 := by rw [← hy]; exact UInt8.toNat_lt _
        obtain ⟨hop, hx256, hxne⟩ := xor_op hy256 (show p % 8 < 8 by omega)
        have hwr := HTW.out (p / 8) (y ^^^ 2 ^ (p % 8)) hdv hx256 (by rw [hy]; exact hxne)
        have hset := cells_setG L (p / 8) (y ^^^ 2 ^ (p % 8)) hx256
        have hat := cells_atG L (p / 8) (by rw [HLn.out]; exact hdv)
        rw [hy] at hat
        generalize y ^^^ 2 ^ (p % 8) = yx at *
        have HWR := Hid.mk hwr
        have HSET := Hid.mk hset
        have HAT := Hid.mk hat
        have hy' : (y : Int) ≤ 255 := by omega
        have hyx' : (yx : Int) ≤ 255 := by omega
        clear hy hy256 hx256 hxne hwr hset hat hbit HTW
        generalize L.set (p / 8) (UInt8.ofNat yx) = LX at *
        go_wp2_with fail
        obtain ⟨W4, hW4⟩ : ∃ W4, W4 = (((((w3.alloc (.cells #[.int .i64 (key : Int), .int .i64 (r : Int), .int .i64 0, .int .i64 3] 32)).setCell ⟨w.heap.size, 0, none⟩ (.int .i64 (key : Int))).setCell ⟨w.heap.size, 1, none⟩ (.int .i64 (r : Int))).setCell ⟨w.heap.size, 2, none⟩ (.int .i64 0)).setCell ⟨w.heap.size, 3, none⟩ (.int .i64 1)) := ⟨_, rfl⟩
        rw [← hW4] at HB4 HO4 HSX ⊢
        clear hW4 x0 x1 x2 x3 z0 z1 z2 z3 y0 y1 y2 y3 p1 q1 p2 q2 p3 q3 HB3 HG3 HX3 HO3
        have hc4 := HO4.out.cellAt (p / 8) (by omega)
        have hf4 := HO4.out.frozenAt (p / 8)
        rw [HAT.out] at hc4
        have hstd := HO4.out.stored (p / 8) (.int .u8 (yx : Int))
        rw [HSET.out] at hstd
        have HST := Hid.mk hstd
        clear hstd
        go_region
        obtain ⟨W5, hW5⟩ : ∃ W5, W5 = (W4.setCell ⟨g, p / 8, none⟩ (.int .u8 (yx : Int))).drew := ⟨_, rfl⟩
        rw [← hW5]
        have HB5 := Hid.mk (show Below w.heap.size w W5 by rw [hW5]; exact (HB4.out.grown HST.out.2 HB4.out.size (fun q hq => by cases hq; have := HGG.out; omega)).drew)
        have HO5 := Hid.mk (show IsBytes W5 (some ⟨g, 0, none⟩) len c LX by rw [hW5]; exact isBytes_ownG (ownsRow_below HST.out.1 (dwG _)))
        have HG5 := Hid.mk (show GdAt W5 w.heap.size key r 0 1 by
          rw [hW5]
          refine GdAt.kept ?_ (dwG _)
          unfold GdAt
          rw [Below.heap_setCell _ _ _ _ (show w.heap.size ≠ g by have := HGG.out; omega)]
          exact HSX.out)
        have HS5 := Hid.mk (HSE3.out g c LX W5 HB5.out HO5.out HWR.out)
        obtain ⟨⟨a0, a1, a2, a3⟩, -⟩ := HG5.out.cells
        clear hW5 hc4 hf4 HST HB4 HO4 HSX HSE3
        go_wp2_with fail
        refine HS5.out.mono ?_
        rintro e w6 ⟨rfl, hb6⟩
        have HA6 := Hid.mk (awG w6 (gdC key r (0 + 1) 4))
        have HB6 := Hid.mk (bl2 HB5.out (bl2 hb6 HA6.out))
        have HG6 := Hid.mk (HG5.out.kept (bl2 hb6 HA6.out))
        unfold gdC at HB6 HG6
        clear hb6 HA6 HS5 HB5 HG5 HO5 a0 a1 a2 a3
        go_wp2_with fail
        go_roundw
        case rel => exact ⟨k + 1, by omega, by go_num, Hid.mk (by rw [HSL.out, HSS.out]; exact HG6.out), HB6⟩
        case measure => simp [intOf]; omega
      · by_cases hbit0 : 0 ≤ bit
        · have hbit1 : ¬ (bit < 8 * (len : Int)) := fun h => hbit ⟨hbit0, h⟩
          clear hbit
          go_wp2_with fail
          go_roundw
          case rel => exact ⟨k + 1, by omega, by go_num, Hid.mk (by rw [HSL.out, HSS.out]; exact HSX.out), HB4⟩
          case measure => simp [intOf]; omega
        · clear hbit
          go_wp2_with fail
          go_roundw
          case rel => exact ⟨k + 1, by omega, by go_num, Hid.mk (by rw [HSL.out, HSS.out]; exact HSX.out), HB4⟩
          case measure => simp [intOf]; omega
    · have e : k = N := by omega
      subst e
      go_wp2_with fail
      refine (HGD.out _ HBr.out).mono ?_
      rintro e w2 ⟨rfl, hb2⟩
      have HB2 := Hid.mk (bl2 HBr.out hb2)
      clear hb2
      go_wp2_with fail
      go_ret
      exact ⟨rfl, HB2.out⟩
end Bw
end Go.Proofs.YtopoogdoepdedaaDoor
