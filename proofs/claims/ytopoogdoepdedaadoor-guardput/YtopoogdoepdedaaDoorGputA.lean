/- GuardPut: a counter and a sum are put into any data as the document says, errors too. -/
import Derived.Test.YtopoogdoepdedaaDoorGdA
import Derived.Test.YtopoogdoepdedaaDoorRefSum
import Derived.Test.YtopoogdoepdedaaDoorRef3
import Derived.Test.YtopoogdoepdedaaDoorBigInt64
namespace Go.Proofs.YtopoogdoepdedaaDoor
open Go.ChangeShapes Go.WideShapes Go.ChangeAt Go.RowKit Go.Sort
namespace Bw
open Bm Cm
theorem owns_bytes {w : World} {base : Nat} {v : Value} {n : Nat} {l : List UInt8} (h : w.ownsRow base 5 1 v n (cellsOf l)) (h0 : 0 < n) : ∃ g c, v = .slice (some ⟨g, 0, none⟩) n c ∧ IsBytes w (some ⟨g, 0, none⟩) n c l := by
  rcases h.2 with ⟨_, h1⟩ | ⟨g, c, cur, hv, _⟩
  · omega
  · subst hv
    exact ⟨g, c, rfl, isBytes_ownG h⟩
set_option maxHeartbeats 8000000 in
set_option maxRecDepth 100000 in
theorem guardSum_any (key : Nat) (x : Addr) (len cap : Nat) (l : List UInt8) (w : World) (hB : w.cell? ⟨4, 1, none⟩ = some (.int .u8 1)) (hD : IsBytes w (some x) len cap l) (hk : key ≤ 65535) (h2 : 2 ≤ len) (h64 : len ≤ 64) :
    Calls Tryd.prog 9 #[.int .i64 key, .slice (some x) len cap] w fun e w' => e = .returned (.int .u8 (gSum key l)) ∧ Below w.heap.size w w' := by
  obtain ⟨i0, hi, hz0, hz1, hz2⟩ := info_parts info_u8
  have hT := isBytes_tail hD (by omega)
  obtain ⟨p, hp⟩ : ∃ p, key / 256 = p := ⟨_, rfl⟩
  obtain ⟨q, hq⟩ : ∃ q, key % 256 = q := ⟨_, rfl⟩
  have hp256 : p < 256 := by omega
  have hq256 : q < 256 := by omega
  have HA := Hid.mk (awG w (.cells #[.int .u8 p, .int .u8 q] 5))
  have HO := Hid.mk (show (w.alloc (.cells #[.int .u8 p, .int .u8 q] 5)).ownsRow w.heap.size 5 1 (.slice (some ⟨w.heap.size, 0, none⟩) 2 2) 2 [.int .u8 p, .int .u8 q] from ⟨by simp, .inr ⟨w.heap.size, 2, #[.int .u8 p, .int .u8 q], rfl, Nat.le_refl _, heap_alloc_new w _, Nat.le_refl _, by unfold maxLen; omega, by simp, by simp⟩⟩)
  have HCC := Hid.mk (bytes_cells (isBytes_below hT HA.out))
  have HCL : Hid ((cellsOf (l.drop 1)).length = (len - 1) * 1) := Hid.mk (by rw [cellsOf_length, hT.1, Nat.mul_one])
  have HROW : Hid ([Value.int .u8 p, .int .u8 q] ++ cellsOf (l.drop 1) = cellsOf (UInt8.ofNat (key / 256) :: UInt8.ofNat (key % 256) :: l.drop 1)) := Hid.mk (by
    unfold cellsOf
    rw [List.map_cons, List.map_cons, ofNat_to (by omega), ofNat_to (by omega), hp, hq]
    rfl)
  have HKR := Hid.mk (key_row (show key < 65536 by omega) l)
  have HBR := Hid.mk (fun W (h : Below w.heap.size w W) => cell_kept h hB)
  have hrl := gRow_len key l
  have hll := hD.1
  have HOF := Hid.mk (fun g c W (h : Below w.heap.size w W) (hY : IsBytes W (some ⟨g, 0, none⟩) (len + 1) c (UInt8.ofNat (key / 256) :: UInt8.ofNat (key % 256) :: l.drop 1)) => ofBytes_any (some ⟨g, 0, none⟩) (len + 1) c _ W (HBR.out W h) (by omega) hY)
  rw [HKR.out] at HOF
  obtain ⟨T, hTT⟩ : ∃ T : ByteArray, T = ⟨(gRow key l).toArray⟩ := ⟨_, rfl⟩
  have hTl : T.data.toList = gRow key l := by rw [hTT, mk_list]
  rw [← hTT] at HOF
  have HSM := Hid.mk (fun W (h : Below w.heap.size w W) => Ww.sumOf_any 3 T W (HBR.out W h) (by omega) (by rw [ba_size hTl]; omega) (by rw [hTl]; exact gRow_row key l))
  rw [hTl] at HSM
  rw [show sumV 3 (gRow key l) = gSum key l from rfl] at HSM
  have hS := gSum_lt key l
  obtain ⟨S, hGS⟩ : ∃ S, gSum key l = S := ⟨_, rfl⟩
  rw [hGS] at HSM hS ⊢
  obtain ⟨U, hU⟩ : ∃ U : ByteArray, U = ⟨(bitsHead S 8 8).toArray⟩ := ⟨_, rfl⟩
  have hUl : U.data.toList = bitsHead S 8 8 := by rw [hU, mk_list]
  rw [show kS 3 = 8 from rfl, ← hU] at HSM
  have HVL := Hid.mk (fun W => Ww.value_row U W (by rw [ba_size hUl, bitsHead_length]; omega) (by rw [hUl]; exact bitsHead_row _ _ _))
  rw [hUl, val_row S 8 (by omega)] at HVL
  have HI := Hid.mk (fun g W (h : Ww.IsInt W g S) => Ww.int64_any g S W h (by omega))
  have hS' : (S : Int) ≤ 255 := by omega
  have hk1 : (key : Int).tdiv 256 = (p : Int) := by rw [Int.tdiv_eq_ediv_of_nonneg (by omega)]; omega
  have hk2 : (key : Int).tmod 256 = (q : Int) := by rw [Int.tmod_eq_emod_of_nonneg (by omega)]; omega
  have hk3 : (key : Int) / 256 = (p : Int) := by omega
  have hk4 : (key : Int) % 256 = (q : Int) := by omega
  have hk' : (key : Int) ≤ 65535 := by omega
  have hp' : (p : Int) ≤ 255 := by omega
  have hq' : (q : Int) ≤ 255 := by omega
  have hlen1 : (1 : Int) ≤ (len : Int) := by omega
  have hcap' : (len : Int) ≤ (cap : Int) := by have := hD.2.1; omega
  have hlen64 : len ≤ 64 := h64
  have hlen2 : 2 ≤ len := h2
  clear hTT hTl hU hUl hGS hrl hll hp hq hp256 hq256 hT hD hB hk
  generalize (UInt8.ofNat (key / 256) :: UInt8.ofNat (key % 256) :: l.drop 1) = LL at *
  have HPL : Hid (∀ u ∈ cellsOf (l.drop 1), ∃ z, u = .int .u8 z) := Hid.mk (by intro u hu; unfold cellsOf at hu; rw [List.mem_map] at hu; obtain ⟨c, -, rfl⟩ := hu; exact ⟨_, rfl⟩)
  generalize cellsOf (l.drop 1) = CL at *
  go_enter Tryd.func9, Tryd.ntmps9
  go_wp2_with (at_builtin; refine wpList_append_own _ rfl (.tmp 12) (.tmp 14) 22 rfl w.heap.size 5 i0 (.int .u8 0) 1 1 Tryd.underlying22 hi hz0 hz1 hz2 rfl (by decide) _ _ _ rfl HO.out (x.add 1) (len - 1) (cap - 1) CL (by rw [add1G]; rfl) HCL.out HCC.out (by intro u hu; obtain ⟨z, rfl⟩ := HPL.out u hu; rfl) (by unfold maxLen; omega) (by omega) (by simp) ?_; intro v3 w3 hown3 hgrow3 hnil3)
  rw [HROW.out, show 2 + (len - 1) = len + 1 by omega] at hown3
  have HB3 : Hid (Below w.heap.size w w3) := Hid.mk (Below.grown HA.out hgrow3 (by simp) (fun k hk => (HO.out.lt k hk).1))
  obtain ⟨g, c, rfl, hY3⟩ := owns_bytes hown3 (by omega)
  have HC3 := Hid.mk (HOF.out g c w3 HB3.out hY3)
  clear hown3 hgrow3 hnil3 hY3 HOF HO HA HCC HCL HROW
  refine HC3.out.mono ?_
  rintro e w4 ⟨rfl, hb4⟩
  have HB4 := Hid.mk (bl2 HB3.out hb4)
  clear hb4 HB3 HC3
  go_wp2_with fail
  refine (HSM.out _ HB4.out).mono ?_
  rintro e w5 ⟨rfl, hb5⟩
  have HB5 := Hid.mk (bl2 HB4.out hb5)
  clear hb5 HB4 HSM
  go_wp2_with fail
  refine (HVL.out _).mono ?_
  rintro e w6 ⟨rfl, hI6, hb6⟩
  have HB6 := Hid.mk (bl2 HB5.out hb6)
  have HI6 := Hid.mk (HI.out _ _ hI6)
  clear hb6 hI6 HB5 HVL HI
  go_wp2_with fail
  refine HI6.out.mono ?_
  rintro e w7 ⟨rfl, hw7⟩
  subst hw7
  go_wp2_with fail
  go_ret
  exact ⟨rfl, HB6.out⟩
end Bw
end Go.Proofs.YtopoogdoepdedaaDoor
namespace Go.Proofs.YtopoogdoepdedaaDoor
open Go.ChangeShapes Go.WideShapes Go.ChangeAt Go.RowKit Go.Sort
namespace Bw
open Bm Cm
theorem putE_out {key ctr : Int} {len : Nat} (h : ¬ ((0 ≤ key ∧ key ≤ 65535) ∧ (0 ≤ ctr ∧ ctr ≤ 14))) : putE key ctr len = 3 := by
  unfold putE
  rw [if_neg (fun e => h ⟨inG_iff.1 e.1, inG_iff.1 e.2⟩)]
theorem putE_in {key ctr : Int} {len : Nat} (h : (0 ≤ key ∧ key ≤ 65535) ∧ (0 ≤ ctr ∧ ctr ≤ 14)) : putE key ctr len = szE len := by
  unfold putE
  rw [if_pos ⟨inG_iff.2 h.1, inG_iff.2 h.2⟩]
set_option maxHeartbeats 8000000 in
set_option maxRecDepth 100000 in
theorem gput_kneg (key ctr : Int) (a : Option Addr) (len cap : Nat) (l : List UInt8) (w : World) (hR : RulesAt w) (hD : IsBytes w a len cap l) (hlen : len ≤ 140737488351232) (h1 : key < 0) :
    Calls Tryd.prog 3 #[.int .i64 key, .int .i64 ctr, .slice a len cap] w fun e w' => e = .returned (.bool true) ∧ Below w.heap.size w w' := by
  have hmx : len ≤ maxLen := Nat.le_trans hD.2.1 hD.2.2.1
  have hl' : (len : Int) ≤ 9223372036854775807 := by omega
  have hE : putE key ctr len = 3 := putE_out (by omega)
  have HCL := Hid.mk (cloneSl_any a len cap l w hD hlen)
  have hPU := fun a' c' W => put_bad key ctr a' len c' W hmx (by rw [hE]; decide)
  simp only [hE] at hPU
  have HPU := Hid.mk hPU
  have HGD := Hid.mk (fun W (h : Below w.heap.size w W) => guarded_any W (hR.kept h))
  have HD := Hid.mk (fun W (h : Below w.heap.size w W) => isBytes_below hD h)
  have HEQ := Hid.mk (fun b c' W (h : Below w.heap.size w W) (hY : IsBytes W b len c' l) => equalB_true W b a len c' cap l hmx (hasG hY) (hasG (HD.out W h)))
  clear hPU hR hD hmx hlen
  clear hE
  go_enter Tryd.func3, Tryd.ntmps3
  go_wp2_with fail
  refine HCL.out.mono ?_
  rintro e w1 ⟨b, c, rfl, hY1, hb1⟩
  have HY1 := Hid.mk hY1
  have HB1 := Hid.mk hb1
  clear hY1 hb1 HCL
  go_wp2_with fail
  refine (HPU.out _ _ _).mono ?_
  rintro e w2 ⟨rfl, hb2⟩
  have HY2 := Hid.mk (isBytes_below HY1.out hb2)
  have HB2 := Hid.mk (bl2 HB1.out hb2)
  clear hb2 HY1 HB1 HPU
  go_wp2_with fail
  refine (HGD.out _ HB2.out).mono ?_
  rintro e w3 ⟨rfl, hb3⟩
  have HY3 := Hid.mk (isBytes_below HY2.out hb3)
  have HB3 := Hid.mk (bl2 HB2.out hb3)
  clear hb3 HY2 HB2
  go_wp2_with fail
  refine (HEQ.out _ _ _ HB3.out HY3.out).mono ?_
  rintro e w4 ⟨rfl, hb4⟩
  have HY4 := Hid.mk (isBytes_below HY3.out hb4)
  have HB4 := Hid.mk (bl2 HB3.out hb4)
  clear hb4 HY3 HB3
  go_wp2_with fail
  refine (HGD.out _ HB4.out).mono ?_
  rintro e w5 ⟨rfl, hb5⟩
  have HY5 := Hid.mk (isBytes_below HY4.out hb5)
  have HB5 := Hid.mk (bl2 HB4.out hb5)
  clear hb5 HY4 HB4
  go_wp2_with fail
  refine (HEQ.out _ _ _ HB5.out HY5.out).mono ?_
  rintro e w6 ⟨rfl, hb6⟩
  have HB6 := Hid.mk (bl2 HB5.out hb6)
  clear hb6
  go_wp2_with fail
  go_ret
  exact ⟨rfl, HB6.out⟩
set_option maxHeartbeats 8000000 in
set_option maxRecDepth 100000 in
theorem gput_kbig (key ctr : Int) (a : Option Addr) (len cap : Nat) (l : List UInt8) (w : World) (hR : RulesAt w) (hD : IsBytes w a len cap l) (hlen : len ≤ 140737488351232) (h1 : 65535 < key) :
    Calls Tryd.prog 3 #[.int .i64 key, .int .i64 ctr, .slice a len cap] w fun e w' => e = .returned (.bool true) ∧ Below w.heap.size w w' := by
  have hmx : len ≤ maxLen := Nat.le_trans hD.2.1 hD.2.2.1
  have hl' : (len : Int) ≤ 9223372036854775807 := by omega
  have hE : putE key ctr len = 3 := putE_out (by omega)
  have HCL := Hid.mk (cloneSl_any a len cap l w hD hlen)
  have hPU := fun a' c' W => put_bad key ctr a' len c' W hmx (by rw [hE]; decide)
  simp only [hE] at hPU
  have HPU := Hid.mk hPU
  have HGD := Hid.mk (fun W (h : Below w.heap.size w W) => guarded_any W (hR.kept h))
  have HD := Hid.mk (fun W (h : Below w.heap.size w W) => isBytes_below hD h)
  have HEQ := Hid.mk (fun b c' W (h : Below w.heap.size w W) (hY : IsBytes W b len c' l) => equalB_true W b a len c' cap l hmx (hasG hY) (hasG (HD.out W h)))
  clear hPU hR hD hmx hlen
  have h2 : ¬ (key < 0) := by omega
  clear hE
  go_enter Tryd.func3, Tryd.ntmps3
  go_wp2_with fail
  refine HCL.out.mono ?_
  rintro e w1 ⟨b, c, rfl, hY1, hb1⟩
  have HY1 := Hid.mk hY1
  have HB1 := Hid.mk hb1
  clear hY1 hb1 HCL
  go_wp2_with fail
  refine (HPU.out _ _ _).mono ?_
  rintro e w2 ⟨rfl, hb2⟩
  have HY2 := Hid.mk (isBytes_below HY1.out hb2)
  have HB2 := Hid.mk (bl2 HB1.out hb2)
  clear hb2 HY1 HB1 HPU
  go_wp2_with fail
  refine (HGD.out _ HB2.out).mono ?_
  rintro e w3 ⟨rfl, hb3⟩
  have HY3 := Hid.mk (isBytes_below HY2.out hb3)
  have HB3 := Hid.mk (bl2 HB2.out hb3)
  clear hb3 HY2 HB2
  go_wp2_with fail
  refine (HEQ.out _ _ _ HB3.out HY3.out).mono ?_
  rintro e w4 ⟨rfl, hb4⟩
  have HY4 := Hid.mk (isBytes_below HY3.out hb4)
  have HB4 := Hid.mk (bl2 HB3.out hb4)
  clear hb4 HY3 HB3
  go_wp2_with fail
  refine (HGD.out _ HB4.out).mono ?_
  rintro e w5 ⟨rfl, hb5⟩
  have HY5 := Hid.mk (isBytes_below HY4.out hb5)
  have HB5 := Hid.mk (bl2 HB4.out hb5)
  clear hb5 HY4 HB4
  go_wp2_with fail
  refine (HEQ.out _ _ _ HB5.out HY5.out).mono ?_
  rintro e w6 ⟨rfl, hb6⟩
  have HB6 := Hid.mk (bl2 HB5.out hb6)
  clear hb6
  go_wp2_with fail
  go_ret
  exact ⟨rfl, HB6.out⟩
set_option maxHeartbeats 8000000 in
set_option maxRecDepth 100000 in
theorem gput_cneg (key ctr : Int) (a : Option Addr) (len cap : Nat) (l : List UInt8) (w : World) (hR : RulesAt w) (hD : IsBytes w a len cap l) (hlen : len ≤ 140737488351232) (h1 : 0 ≤ key ∧ key ≤ 65535) (h2 : ctr < 0) :
    Calls Tryd.prog 3 #[.int .i64 key, .int .i64 ctr, .slice a len cap] w fun e w' => e = .returned (.bool true) ∧ Below w.heap.size w w' := by
  have hmx : len ≤ maxLen := Nat.le_trans hD.2.1 hD.2.2.1
  have hl' : (len : Int) ≤ 9223372036854775807 := by omega
  have hE : putE key ctr len = 3 := putE_out (by omega)
  have HCL := Hid.mk (cloneSl_any a len cap l w hD hlen)
  have hPU := fun a' c' W => put_bad key ctr a' len c' W hmx (by rw [hE]; decide)
  simp only [hE] at hPU
  have HPU := Hid.mk hPU
  have HGD := Hid.mk (fun W (h : Below w.heap.size w W) => guarded_any W (hR.kept h))
  have HD := Hid.mk (fun W (h : Below w.heap.size w W) => isBytes_below hD h)
  have HEQ := Hid.mk (fun b c' W (h : Below w.heap.size w W) (hY : IsBytes W b len c' l) => equalB_true W b a len c' cap l hmx (hasG hY) (hasG (HD.out W h)))
  clear hPU hR hD hmx hlen
  have h3 : ¬ (key < 0) := by omega
  have h4 : ¬ (65535 < key) := by omega
  clear hE h1
  go_enter Tryd.func3, Tryd.ntmps3
  go_wp2_with fail
  refine HCL.out.mono ?_
  rintro e w1 ⟨b, c, rfl, hY1, hb1⟩
  have HY1 := Hid.mk hY1
  have HB1 := Hid.mk hb1
  clear hY1 hb1 HCL
  go_wp2_with fail
  refine (HPU.out _ _ _).mono ?_
  rintro e w2 ⟨rfl, hb2⟩
  have HY2 := Hid.mk (isBytes_below HY1.out hb2)
  have HB2 := Hid.mk (bl2 HB1.out hb2)
  clear hb2 HY1 HB1 HPU
  go_wp2_with fail
  refine (HGD.out _ HB2.out).mono ?_
  rintro e w3 ⟨rfl, hb3⟩
  have HY3 := Hid.mk (isBytes_below HY2.out hb3)
  have HB3 := Hid.mk (bl2 HB2.out hb3)
  clear hb3 HY2 HB2
  go_wp2_with fail
  refine (HEQ.out _ _ _ HB3.out HY3.out).mono ?_
  rintro e w4 ⟨rfl, hb4⟩
  have HY4 := Hid.mk (isBytes_below HY3.out hb4)
  have HB4 := Hid.mk (bl2 HB3.out hb4)
  clear hb4 HY3 HB3
  go_wp2_with fail
  refine (HGD.out _ HB4.out).mono ?_
  rintro e w5 ⟨rfl, hb5⟩
  have HY5 := Hid.mk (isBytes_below HY4.out hb5)
  have HB5 := Hid.mk (bl2 HB4.out hb5)
  clear hb5 HY4 HB4
  go_wp2_with fail
  refine (HEQ.out _ _ _ HB5.out HY5.out).mono ?_
  rintro e w6 ⟨rfl, hb6⟩
  have HB6 := Hid.mk (bl2 HB5.out hb6)
  clear hb6
  go_wp2_with fail
  go_ret
  exact ⟨rfl, HB6.out⟩
set_option maxHeartbeats 8000000 in
set_option maxRecDepth 100000 in
theorem gput_cbig (key ctr : Int) (a : Option Addr) (len cap : Nat) (l : List UInt8) (w : World) (hR : RulesAt w) (hD : IsBytes w a len cap l) (hlen : len ≤ 140737488351232) (h1 : 0 ≤ key ∧ key ≤ 65535) (h2 : 14 < ctr) :
    Calls Tryd.prog 3 #[.int .i64 key, .int .i64 ctr, .slice a len cap] w fun e w' => e = .returned (.bool true) ∧ Below w.heap.size w w' := by
  have hmx : len ≤ maxLen := Nat.le_trans hD.2.1 hD.2.2.1
  have hl' : (len : Int) ≤ 9223372036854775807 := by omega
  have hE : putE key ctr len = 3 := putE_out (by omega)
  have HCL := Hid.mk (cloneSl_any a len cap l w hD hlen)
  have hPU := fun a' c' W => put_bad key ctr a' len c' W hmx (by rw [hE]; decide)
  simp only [hE] at hPU
  have HPU := Hid.mk hPU
  have HGD := Hid.mk (fun W (h : Below w.heap.size w W) => guarded_any W (hR.kept h))
  have HD := Hid.mk (fun W (h : Below w.heap.size w W) => isBytes_below hD h)
  have HEQ := Hid.mk (fun b c' W (h : Below w.heap.size w W) (hY : IsBytes W b len c' l) => equalB_true W b a len c' cap l hmx (hasG hY) (hasG (HD.out W h)))
  clear hPU hR hD hmx hlen
  have h3 : ¬ (key < 0) := by omega
  have h4 : ¬ (65535 < key) := by omega
  have h5 : ¬ (ctr < 0) := by omega
  clear hE h1
  go_enter Tryd.func3, Tryd.ntmps3
  go_wp2_with fail
  refine HCL.out.mono ?_
  rintro e w1 ⟨b, c, rfl, hY1, hb1⟩
  have HY1 := Hid.mk hY1
  have HB1 := Hid.mk hb1
  clear hY1 hb1 HCL
  go_wp2_with fail
  refine (HPU.out _ _ _).mono ?_
  rintro e w2 ⟨rfl, hb2⟩
  have HY2 := Hid.mk (isBytes_below HY1.out hb2)
  have HB2 := Hid.mk (bl2 HB1.out hb2)
  clear hb2 HY1 HB1 HPU
  go_wp2_with fail
  refine (HGD.out _ HB2.out).mono ?_
  rintro e w3 ⟨rfl, hb3⟩
  have HY3 := Hid.mk (isBytes_below HY2.out hb3)
  have HB3 := Hid.mk (bl2 HB2.out hb3)
  clear hb3 HY2 HB2
  go_wp2_with fail
  refine (HEQ.out _ _ _ HB3.out HY3.out).mono ?_
  rintro e w4 ⟨rfl, hb4⟩
  have HY4 := Hid.mk (isBytes_below HY3.out hb4)
  have HB4 := Hid.mk (bl2 HB3.out hb4)
  clear hb4 HY3 HB3
  go_wp2_with fail
  refine (HGD.out _ HB4.out).mono ?_
  rintro e w5 ⟨rfl, hb5⟩
  have HY5 := Hid.mk (isBytes_below HY4.out hb5)
  have HB5 := Hid.mk (bl2 HB4.out hb5)
  clear hb5 HY4 HB4
  go_wp2_with fail
  refine (HEQ.out _ _ _ HB5.out HY5.out).mono ?_
  rintro e w6 ⟨rfl, hb6⟩
  have HB6 := Hid.mk (bl2 HB5.out hb6)
  clear hb6
  go_wp2_with fail
  go_ret
  exact ⟨rfl, HB6.out⟩
set_option maxHeartbeats 8000000 in
set_option maxRecDepth 100000 in
theorem gput_short (key ctr : Int) (a : Option Addr) (len cap : Nat) (l : List UInt8) (w : World) (hR : RulesAt w) (hD : IsBytes w a len cap l) (hlen : len ≤ 140737488351232) (h1 : 0 ≤ key ∧ key ≤ 65535) (h2 : 0 ≤ ctr ∧ ctr ≤ 14) (h6 : len < 2) :
    Calls Tryd.prog 3 #[.int .i64 key, .int .i64 ctr, .slice a len cap] w fun e w' => e = .returned (.bool true) ∧ Below w.heap.size w w' := by
  have hmx : len ≤ maxLen := Nat.le_trans hD.2.1 hD.2.2.1
  have hl' : (len : Int) ≤ 9223372036854775807 := by omega
  have hE : putE key ctr len = 7 := by rw [putE_in ⟨h1, h2⟩]; unfold szE; rw [if_pos h6]
  have HCL := Hid.mk (cloneSl_any a len cap l w hD hlen)
  have hPU := fun a' c' W => put_bad key ctr a' len c' W hmx (by rw [hE]; decide)
  simp only [hE] at hPU
  have HPU := Hid.mk hPU
  have HGD := Hid.mk (fun W (h : Below w.heap.size w W) => guarded_any W (hR.kept h))
  have HD := Hid.mk (fun W (h : Below w.heap.size w W) => isBytes_below hD h)
  have HEQ := Hid.mk (fun b c' W (h : Below w.heap.size w W) (hY : IsBytes W b len c' l) => equalB_true W b a len c' cap l hmx (hasG hY) (hasG (HD.out W h)))
  clear hPU hR hD hmx hlen
  have h3 : ¬ (key < 0) := by omega
  have h4 : ¬ (65535 < key) := by omega
  have h5 : ¬ (ctr < 0) := by omega
  have h7 : ¬ (14 < ctr) := by omega
  have h8 : (len : Int) < 2 := by omega
  clear hE h1 h2
  go_enter Tryd.func3, Tryd.ntmps3
  go_wp2_with fail
  refine HCL.out.mono ?_
  rintro e w1 ⟨b, c, rfl, hY1, hb1⟩
  have HY1 := Hid.mk hY1
  have HB1 := Hid.mk hb1
  clear hY1 hb1 HCL
  go_wp2_with fail
  refine (HPU.out _ _ _).mono ?_
  rintro e w2 ⟨rfl, hb2⟩
  have HY2 := Hid.mk (isBytes_below HY1.out hb2)
  have HB2 := Hid.mk (bl2 HB1.out hb2)
  clear hb2 HY1 HB1 HPU
  go_wp2_with fail
  refine (HGD.out _ HB2.out).mono ?_
  rintro e w3 ⟨rfl, hb3⟩
  have HY3 := Hid.mk (isBytes_below HY2.out hb3)
  have HB3 := Hid.mk (bl2 HB2.out hb3)
  clear hb3 HY2 HB2
  go_wp2_with fail
  refine (HEQ.out _ _ _ HB3.out HY3.out).mono ?_
  rintro e w4 ⟨rfl, hb4⟩
  have HY4 := Hid.mk (isBytes_below HY3.out hb4)
  have HB4 := Hid.mk (bl2 HB3.out hb4)
  clear hb4 HY3 HB3
  go_wp2_with fail
  refine (HGD.out _ HB4.out).mono ?_
  rintro e w5 ⟨rfl, hb5⟩
  have HY5 := Hid.mk (isBytes_below HY4.out hb5)
  have HB5 := Hid.mk (bl2 HB4.out hb5)
  clear hb5 HY4 HB4
  go_wp2_with fail
  refine (HEQ.out _ _ _ HB5.out HY5.out).mono ?_
  rintro e w6 ⟨rfl, hb6⟩
  have HB6 := Hid.mk (bl2 HB5.out hb6)
  clear hb6
  go_wp2_with fail
  go_ret
  exact ⟨rfl, HB6.out⟩
set_option maxHeartbeats 8000000 in
set_option maxRecDepth 100000 in
theorem gput_long (key ctr : Int) (a : Option Addr) (len cap : Nat) (l : List UInt8) (w : World) (hR : RulesAt w) (hD : IsBytes w a len cap l) (hlen : len ≤ 140737488351232) (h1 : 0 ≤ key ∧ key ≤ 65535) (h2 : 0 ≤ ctr ∧ ctr ≤ 14) (h6 : 64 < len) :
    Calls Tryd.prog 3 #[.int .i64 key, .int .i64 ctr, .slice a len cap] w fun e w' => e = .returned (.bool true) ∧ Below w.heap.size w w' := by
  have hmx : len ≤ maxLen := Nat.le_trans hD.2.1 hD.2.2.1
  have hl' : (len : Int) ≤ 9223372036854775807 := by omega
  have hE : putE key ctr len = 2 := by rw [putE_in ⟨h1, h2⟩]; unfold szE; rw [if_neg (by omega), if_pos h6]
  have HCL := Hid.mk (cloneSl_any a len cap l w hD hlen)
  have hPU := fun a' c' W => put_bad key ctr a' len c' W hmx (by rw [hE]; decide)
  simp only [hE] at hPU
  have HPU := Hid.mk hPU
  have HGD := Hid.mk (fun W (h : Below w.heap.size w W) => guarded_any W (hR.kept h))
  have HD := Hid.mk (fun W (h : Below w.heap.size w W) => isBytes_below hD h)
  have HEQ := Hid.mk (fun b c' W (h : Below w.heap.size w W) (hY : IsBytes W b len c' l) => equalB_true W b a len c' cap l hmx (hasG hY) (hasG (HD.out W h)))
  clear hPU hR hD hmx hlen
  have h3 : ¬ (key < 0) := by omega
  have h4 : ¬ (65535 < key) := by omega
  have h5 : ¬ (ctr < 0) := by omega
  have h7 : ¬ (14 < ctr) := by omega
  have h8 : ¬ ((len : Int) < 2) := by omega
  have h9 : (64 : Int) < (len : Int) := by omega
  clear hE h1 h2
  go_enter Tryd.func3, Tryd.ntmps3
  go_wp2_with fail
  refine HCL.out.mono ?_
  rintro e w1 ⟨b, c, rfl, hY1, hb1⟩
  have HY1 := Hid.mk hY1
  have HB1 := Hid.mk hb1
  clear hY1 hb1 HCL
  go_wp2_with fail
  refine (HPU.out _ _ _).mono ?_
  rintro e w2 ⟨rfl, hb2⟩
  have HY2 := Hid.mk (isBytes_below HY1.out hb2)
  have HB2 := Hid.mk (bl2 HB1.out hb2)
  clear hb2 HY1 HB1 HPU
  go_wp2_with fail
  refine (HGD.out _ HB2.out).mono ?_
  rintro e w3 ⟨rfl, hb3⟩
  have HY3 := Hid.mk (isBytes_below HY2.out hb3)
  have HB3 := Hid.mk (bl2 HB2.out hb3)
  clear hb3 HY2 HB2
  go_wp2_with fail
  refine (HEQ.out _ _ _ HB3.out HY3.out).mono ?_
  rintro e w4 ⟨rfl, hb4⟩
  have HY4 := Hid.mk (isBytes_below HY3.out hb4)
  have HB4 := Hid.mk (bl2 HB3.out hb4)
  clear hb4 HY3 HB3
  go_wp2_with fail
  refine (HGD.out _ HB4.out).mono ?_
  rintro e w5 ⟨rfl, hb5⟩
  have HY5 := Hid.mk (isBytes_below HY4.out hb5)
  have HB5 := Hid.mk (bl2 HB4.out hb5)
  clear hb5 HY4 HB4
  go_wp2_with fail
  refine (HEQ.out _ _ _ HB5.out HY5.out).mono ?_
  rintro e w6 ⟨rfl, hb6⟩
  have HB6 := Hid.mk (bl2 HB5.out hb6)
  clear hb6
  go_wp2_with fail
  go_ret
  exact ⟨rfl, HB6.out⟩
end Bw
end Go.Proofs.YtopoogdoepdedaaDoor
namespace Go.Proofs.YtopoogdoepdedaaDoor
open Go.ChangeShapes Go.WideShapes Go.ChangeAt Go.RowKit Go.Sort
namespace Bw
open Bm Cm
set_option maxHeartbeats 16000000 in
set_option maxRecDepth 100000 in
theorem gput_ok (key n : Nat) (x : Addr) (len cap : Nat) (l : List UInt8) (w : World) (hR : RulesAt w) (hB : w.cell? ⟨4, 1, none⟩ = some (.int .u8 1)) (hD : IsBytes w (some x) len cap l) (hk : key ≤ 65535) (hn : n ≤ 14) (h2 : 2 ≤ len) (h64 : len ≤ 64) :
    Calls Tryd.prog 3 #[.int .i64 key, .int .i64 n, .slice (some x) len cap] w fun e w' => e = .returned (.bool true) ∧ Below w.heap.size w w' := by
  have hmx : len ≤ maxLen := Nat.le_trans hD.2.1 hD.2.2.1
  have hll : l.length = len := hD.1
  have HCL := Hid.mk (fun W (h : Below w.heap.size w W) => cloneSl_some x len cap l W (isBytes_below hD h) (by omega))
  have HPU := Hid.mk (fun g c' W (h : Below w.heap.size w W) (hY : IsBytes W (some ⟨g, 0, none⟩) len c' l) => put_ok key n (some ⟨g, 0, none⟩) len c' l W (hR.kept h) hY hk hn h2 h64)
  have HGD := Hid.mk (fun W (h : Below w.heap.size w W) => guarded_any W (hR.kept h))
  have HD := Hid.mk (fun W (h : Below w.heap.size w W) => isBytes_below hD h)
  have HEQ := Hid.mk (fun b c' W (h : Below w.heap.size w W) (hY : IsBytes W b len c' l) => equalB_true W b (some x) len c' cap l hmx (hasG hY) (hasG (HD.out W h)))
  have HEQ2 := Hid.mk (fun b b' c' c'' W (hY : IsBytes W b len c' (putL key n l)) (hY' : IsBytes W b' len c'' (putL key n l)) => equalB_true W b b' len c' c'' (putL key n l) hmx (hasG hY) (hasG hY'))
  have HSR := Hid.mk (fun g c' L W (h : Below w.heap.size w W) (hY : IsBytes W (some ⟨g, 0, none⟩) len c' L) => guardSum_any key ⟨g, 0, none⟩ len c' L W (cell_kept h hB) hY hk h2 h64)
  obtain ⟨y, hy⟩ : ∃ y, y = (l.getD 1 0).toNat := ⟨_, rfl⟩
  have hy256 : y < 256 := by rw [hy]; exact UInt8.toNat_lt _
  have hcl := ctr_lt hy256 (show n < 16 by omega)
  have hset1 := cells_setG l 1 (ctr y n) hcl
  have e1 : l.set 1 (UInt8.ofNat (ctr y n)) = cntL n l := by unfold cntL; rw [hy]
  rw [e1] at hset1
  have hset0 := cells_setG (cntL n l) 0 (gSum key (cntL n l)) (gSum_lt _ _)
  have e0 : (cntL n l).set 0 (UInt8.ofNat (gSum key (cntL n l))) = putL key n l := rfl
  rw [e0] at hset0
  have hat1 := cells_atG l 1 (by omega)
  rw [← hy] at hat1
  have hcn : (cntL n l).length = len := by rw [cntL_len]; exact hll
  have hat0 := cells_atG (cntL n l) 0 (by omega)
  have HAT1 := Hid.mk hat1
  have HAT0 := Hid.mk hat0
  have HSET1 := Hid.mk hset1
  have HSET0 := Hid.mk hset0
  have hS := gSum_lt key (cntL n l)
  obtain ⟨S, hGS⟩ : ∃ S, gSum key (cntL n l) = S := ⟨_, rfl⟩
  rw [hGS] at hS HSET0
  have HGS := Hid.mk hGS
  obtain ⟨cy, hcy⟩ : ∃ cy, ctr y n = cy := ⟨_, rfl⟩
  rw [hcy] at hcl HSET1
  have hq1 : (y : Int).tdiv 16 = (y : Int) / 16 := Int.tdiv_eq_ediv_of_nonneg (by omega)
  have hq2 : (y : Int) / 16 * 16 + (n : Int) = (cy : Int) := by rw [← hcy]; unfold ctr; omega
  have hq3 : (y : Int) / 16 * 16 ≤ 240 := by omega
  have hq4 : (y : Int) / 16 ≤ 15 := by omega
  have hq5 : 0 ≤ (y : Int) / 16 := by omega
  have hcl' : (cy : Int) ≤ 255 := by omega
  have hy' : (y : Int) ≤ 255 := by omega
  have hn' : (n : Int) ≤ 14 := by omega
  have hn0 : ¬ ((n : Int) < 0) := by omega
  have hn1 : ¬ (14 < (n : Int)) := by omega
  have hk0 : ¬ ((key : Int) < 0) := by omega
  have hk1 : ¬ (65535 < (key : Int)) := by omega
  have hlen0 : ¬ ((len : Int) < 2) := by omega
  have hlen1 : ¬ (64 < (len : Int)) := by omega
  have hlen2 : (2 : Int) ≤ (len : Int) := by omega
  have hlen3 : 1 < len := by omega
  have hlen4 : 0 < len := by omega
  have hS' : (S : Int) ≤ 255 := by omega
  clear hy hy256 hcl hset1 e1 hset0 e0 hat1 hat0 hcn hGS hcy hD hR hB hll h64 hmx hk hn
  generalize ((cntL n l).getD 0 0).toNat = y0 at *
  generalize cntL n l = L at *
  generalize putL key n l = LP at *
  go_enter Tryd.func3, Tryd.ntmps3
  go_wp2_with fail
  refine (HCL.out _ (Below.refl _ _)).mono ?_
  rintro e w1 ⟨g1, c1, rfl, hO1, hg1, hb1⟩
  have HY1 := Hid.mk (isBytes_ownG hO1)
  have HB1 := Hid.mk hb1
  clear hO1 hg1 hb1
  go_wp2_with fail
  refine (HPU.out _ _ _ HB1.out HY1.out).mono ?_
  rintro e w2 ⟨g2, c2, rfl, hO2, hg2, hb2⟩
  have HY2 := Hid.mk (isBytes_below HY1.out hb2)
  have HB2 := Hid.mk (bl2 HB1.out hb2)
  have HP2 := Hid.mk (isBytes_ownG hO2)
  clear hb2 HY1 HB1 HPU hO2 hg2
  go_wp2_with fail
  refine (HGD.out _ HB2.out).mono ?_
  rintro e w3 ⟨rfl, hb3⟩
  have HY3 := Hid.mk (isBytes_below HY2.out hb3)
  have HP3 := Hid.mk (isBytes_below HP2.out hb3)
  have HB3 := Hid.mk (bl2 HB2.out hb3)
  clear hb3 HY2 HB2 HP2
  go_wp2_with fail
  refine (HEQ.out _ _ _ HB3.out HY3.out).mono ?_
  rintro e w4 ⟨rfl, hb4⟩
  have HP4 := Hid.mk (isBytes_below HP3.out hb4)
  have HB4 := Hid.mk (bl2 HB3.out hb4)
  clear hb4 HY3 HB3 HP3 HEQ HGD
  go_wp2_with fail
  refine (HCL.out _ HB4.out).mono ?_
  rintro e w5 ⟨g, c, rfl, hown, hg, hb5⟩
  have HG := Hid.mk hg
  have HO5 := Hid.mk hown
  have hc5 := HO5.out.cellAt 1 (by omega)
  have hf5 := HO5.out.frozenAt 1
  rw [HAT1.out] at hc5
  have hst := HO5.out.stored 1 (.int .u8 (cy : Int))
  rw [HSET1.out] at hst
  have hB6 := hb5.grown hst.2 hb5.size (fun q hq => by cases hq; exact HG.out)
  have HB6 := Hid.mk hB6
  have HO6 := Hid.mk hst.1
  have HSM := Hid.mk (HSR.out g c L _ (bl2 HB4.out hB6) (isBytes_ownG hst.1))
  rw [HGS.out] at HSM
  clear hown hg hb5 hst HCL hB6 HSR HO5
  go_wp2_with fail
  refine HSM.out.mono ?_
  rintro e w7 ⟨rfl, hb7⟩
  have HO7 := Hid.mk (ownsRow_below HO6.out hb7)
  have HB7 := Hid.mk (bl2 HB6.out hb7)
  have hc7 := HO7.out.cellAt 0 (by omega)
  have hf7 := HO7.out.frozenAt 0
  rw [HAT0.out] at hc7
  have hst := HO7.out.stored 0 (.int .u8 (S : Int))
  rw [HSET0.out] at hst
  have HB8 := Hid.mk (HB7.out.grown hst.2 HB7.out.size (fun q hq => by cases hq; exact HG.out))
  have HE8 := Hid.mk (HEQ2.out (some ⟨g2, 0, none⟩) (some ⟨g, 0, none⟩) c2 c _ (isBytes_below HP4.out HB8.out) (isBytes_ownG hst.1))
  clear hb7 hst hc5 hf5 HSM HO6 HB6 HO7 HB7 HEQ2
  go_wp2_with fail
  refine HE8.out.mono ?_
  rintro e w9 ⟨rfl, hb9⟩
  have HB9 := Hid.mk (bl2 HB4.out (bl2 HB8.out hb9))
  clear hb9
  go_wp2_with fail
  go_ret
  exact ⟨rfl, HB9.out⟩
theorem guardPut_law (key ctr : Int) (a : Option Addr) (len cap : Nat) (l : List UInt8) (w : World) (hR : RulesAt w) (hB : w.cell? ⟨4, 1, none⟩ = some (.int .u8 1)) (hD : IsBytes w a len cap l) (hlen : len ≤ 140737488351232) :
    Calls Tryd.prog 3 #[.int .i64 key, .int .i64 ctr, .slice a len cap] w fun e w' => e = .returned (.bool true) ∧ Below w.heap.size w w' := by
  by_cases h0 : key < 0
  · exact gput_kneg key ctr a len cap l w hR hD hlen h0
  by_cases h1 : 65535 < key
  · exact gput_kbig key ctr a len cap l w hR hD hlen h1
  by_cases h2 : ctr < 0
  · exact gput_cneg key ctr a len cap l w hR hD hlen ⟨by omega, by omega⟩ h2
  by_cases h3 : 14 < ctr
  · exact gput_cbig key ctr a len cap l w hR hD hlen ⟨by omega, by omega⟩ h3
  by_cases h4 : len < 2
  · exact gput_short key ctr a len cap l w hR hD hlen ⟨by omega, by omega⟩ ⟨by omega, by omega⟩ h4
  by_cases h5 : 64 < len
  · exact gput_long key ctr a len cap l w hR hD hlen ⟨by omega, by omega⟩ ⟨by omega, by omega⟩ h5
  obtain ⟨k, rfl⟩ : ∃ k : Nat, key = (k : Int) := ⟨key.toNat, by omega⟩
  obtain ⟨c, rfl⟩ : ∃ c : Nat, ctr = (c : Int) := ⟨ctr.toNat, by omega⟩
  cases a with
  | none => exact absurd (hD.2.2.2.1 rfl) (by omega)
  | some x => exact gput_ok k c x len cap l w hR hB hD (by omega) (by omega) (by omega) (by omega)
end Bw
end Go.Proofs.YtopoogdoepdedaaDoor
