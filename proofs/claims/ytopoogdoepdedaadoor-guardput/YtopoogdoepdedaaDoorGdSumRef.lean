/- What the law's own sum of a key and data answers. -/
import Derived.Test.YtopoogdoepdedaaDoorGdLed
import Derived.Test.YtopoogdoepdedaaDoorRefSum
import Derived.Test.YtopoogdoepdedaaDoorRef3
import Derived.Test.YtopoogdoepdedaaDoorBigInt64
namespace Go.Proofs.YtopoogdoepdedaaDoor
open Go.ChangeShapes Go.WideShapes Go.ChangeAt Go.RowKit Go.Sort
namespace Bw
open Bm Cm
theorem owns_bytes {w : World} {base : Nat} {v : Value} {n : Nat} {l : List UInt8} (h : w.ownsRow base 5 1 v n (cellsOf l)) (h0 : 0 < n) : ∃ g c, v = .slice (some ⟨g, 0, none⟩) n c ∧ IsBytes w (some ⟨g, 0, none⟩) n c l := by
  rcases h.2 with ⟨_, h1⟩ | ⟨g, c, cur, hv, _⟩
  · omega
  · subst hv
    exact ⟨g, c, rfl, isBytes_ownG h⟩
set_option maxHeartbeats 8000000 in
set_option maxRecDepth 100000 in
theorem guardSum_any (key : Nat) (x : Addr) (len cap : Nat) (l : List UInt8) (w : World) (hB : w.cell? ⟨4, 1, none⟩ = some (.int .u8 1)) (hD : IsBytes w (some x) len cap l) (hk : key ≤ 65535) (h2 : 2 ≤ len) (h64 : len ≤ 64) :
    Calls Tryd.prog 9 #[.int .i64 key, .slice (some x) len cap] w fun e w' => e = .returned (.int .u8 (gSum key l)) ∧ Below w.heap.size w w' := by
  obtain ⟨i0, hi, hz0, hz1, hz2⟩ := info_parts info_u8
  have hT := isBytes_tail hD (by omega)
  obtain ⟨p, hp⟩ : ∃ p, key / 256 = p := ⟨_, rfl⟩
  obtain ⟨q, hq⟩ : ∃ q, key % 256 = q := ⟨_, rfl⟩
  have hp256 : p < 256 := by omega
  have hq256 : q < 256 := by omega
  have HA := Hid.mk (awG w (.cells #[.int .u8 p, .int .u8 q] 5))
  have HO := Hid.mk (show (w.alloc (.cells #[.int .u8 p, .int .u8 q] 5)).ownsRow w.heap.size 5 1 (.slice (some ⟨w.heap.size, 0, none⟩) 2 2) 2 [.int .u8 p, .int .u8 q] from ⟨by simp, .inr ⟨w.heap.size, 2, #[.int .u8 p, .int .u8 q], rfl, Nat.le_refl _, heap_alloc_new w _, Nat.le_refl _, by unfold maxLen; omega, by simp, by simp⟩⟩)
  have HCC := Hid.mk (bytes_cells (isBytes_below hT HA.out))
  have HCL : Hid ((cellsOf (l.drop 1)).length = (len - 1) * 1) := Hid.mk (by rw [cellsOf_length, hT.1, Nat.mul_one])
  have HROW : Hid ([Value.int .u8 p, .int .u8 q] ++ cellsOf (l.drop 1) = cellsOf (UInt8.ofNat (key / 256) :: UInt8.ofNat (key % 256) :: l.drop 1)) := Hid.mk (by
    unfold cellsOf
    rw [List.map_cons, List.map_cons, ofNat_to (by omega), ofNat_to (by omega), hp, hq]
    rfl)
  have HKR := Hid.mk (key_row (show key < 65536 by omega) l)
  have HBR := Hid.mk (fun W (h : Below w.heap.size w W) => cell_kept h hB)
  have hrl := gRow_len key l
  have hll := hD.1
  have HOF := Hid.mk (fun g c W (h : Below w.heap.size w W) (hY : IsBytes W (some ⟨g, 0, none⟩) (len + 1) c (UInt8.ofNat (key / 256) :: UInt8.ofNat (key % 256) :: l.drop 1)) => ofBytes_any (some ⟨g, 0, none⟩) (len + 1) c _ W (HBR.out W h) (by omega) hY)
  rw [HKR.out] at HOF
  obtain ⟨T, hTT⟩ : ∃ T : ByteArray, T = ⟨(gRow key l).toArray⟩ := ⟨_, rfl⟩
  have hTl : T.data.toList = gRow key l := by rw [hTT, mk_list]
  rw [← hTT] at HOF
  have HSM := Hid.mk (fun W (h : Below w.heap.size w W) => Ww.sumOf_any 3 T W (HBR.out W h) (by omega) (by rw [ba_size hTl]; omega) (by rw [hTl]; exact gRow_row key l))
  rw [hTl] at HSM
  rw [show sumV 3 (gRow key l) = gSum key l from rfl] at HSM
  have hS := gSum_lt key l
  obtain ⟨S, hGS⟩ : ∃ S, gSum key l = S := ⟨_, rfl⟩
  rw [hGS] at HSM hS ⊢
  obtain ⟨U, hU⟩ : ∃ U : ByteArray, U = ⟨(bitsHead S 8 8).toArray⟩ := ⟨_, rfl⟩
  have hUl : U.data.toList = bitsHead S 8 8 := by rw [hU, mk_list]
  rw [show kS 3 = 8 from rfl, ← hU] at HSM
  have HVL := Hid.mk (fun W => Ww.value_row U W (by rw [ba_size hUl, bitsHead_length]; omega) (by rw [hUl]; exact bitsHead_row _ _ _))
  rw [hUl, val_row S 8 (by omega)] at HVL
  have HI := Hid.mk (fun g W (h : Ww.IsInt W g S) => Ww.int64_any g S W h (by omega))
  have hS' : (S : Int) ≤ 255 := by omega
  have hk1 : (key : Int).tdiv 256 = (p : Int) := by rw [Int.tdiv_eq_ediv_of_nonneg (by omega)]; omega
  have hk2 : (key : Int).tmod 256 = (q : Int) := by rw [Int.tmod_eq_emod_of_nonneg (by omega)]; omega
  have hk3 : (key : Int) / 256 = (p : Int) := by omega
  have hk4 : (key : Int) % 256 = (q : Int) := by omega
  have hk' : (key : Int) ≤ 65535 := by omega
  have hp' : (p : Int) ≤ 255 := by omega
  have hq' : (q : Int) ≤ 255 := by omega
  have hlen1 : (1 : Int) ≤ (len : Int) := by omega
  have hcap' : (len : Int) ≤ (cap : Int) := by have := hD.2.1; omega
  have hlen64 : len ≤ 64 := h64
  have hlen2 : 2 ≤ len := h2
  clear hTT hTl hU hUl hGS hrl hll hp hq hp256 hq256 hT hD hB hk
  generalize (UInt8.ofNat (key / 256) :: UInt8.ofNat (key % 256) :: l.drop 1) = LL at *
  have HPL : Hid (∀ u ∈ cellsOf (l.drop 1), ∃ z, u = .int .u8 z) := Hid.mk (by intro u hu; unfold cellsOf at hu; rw [List.mem_map] at hu; obtain ⟨c, -, rfl⟩ := hu; exact ⟨_, rfl⟩)
  generalize cellsOf (l.drop 1) = CL at *
  go_enter Tryd.func9, Tryd.ntmps9
  go_wp2_with (at_builtin; refine wpList_append_own _ rfl (.tmp 12) (.tmp 14) 22 rfl w.heap.size 5 i0 (.int .u8 0) 1 1 Tryd.underlying22 hi hz0 hz1 hz2 rfl (by decide) _ _ _ rfl HO.out (x.add 1) (len - 1) (cap - 1) CL (by rw [add1G]; rfl) HCL.out HCC.out (by intro u hu; obtain ⟨z, rfl⟩ := HPL.out u hu; rfl) (by unfold maxLen; omega) (by omega) (by simp) ?_; intro v3 w3 hown3 hgrow3 hnil3)
  rw [HROW.out, show 2 + (len - 1) = len + 1 by omega] at hown3
  have HB3 : Hid (Below w.heap.size w w3) := Hid.mk (Below.grown HA.out hgrow3 (by simp) (fun k hk => (HO.out.lt k hk).1))
  obtain ⟨g, c, rfl, hY3⟩ := owns_bytes hown3 (by omega)
  have HC3 := Hid.mk (HOF.out g c w3 HB3.out hY3)
  clear hown3 hgrow3 hnil3 hY3 HOF HO HA HCC HCL HROW
  refine HC3.out.mono ?_
  rintro e w4 ⟨rfl, hb4⟩
  have HB4 := Hid.mk (bl2 HB3.out hb4)
  clear hb4 HB3 HC3
  go_wp2_with fail
  refine (HSM.out _ HB4.out).mono ?_
  rintro e w5 ⟨rfl, hb5⟩
  have HB5 := Hid.mk (bl2 HB4.out hb5)
  clear hb5 HB4 HSM
  go_wp2_with fail
  refine (HVL.out _).mono ?_
  rintro e w6 ⟨rfl, hI6, hb6⟩
  have HB6 := Hid.mk (bl2 HB5.out hb6)
  have HI6 := Hid.mk (HI.out _ _ hI6)
  clear hb6 hI6 HB5 HVL HI
  go_wp2_with fail
  refine HI6.out.mono ?_
  rintro e w7 ⟨rfl, hw7⟩
  subst hw7
  go_wp2_with fail
  go_ret
  exact ⟨rfl, HB6.out⟩
end Bw
end Go.Proofs.YtopoogdoepdedaaDoor
