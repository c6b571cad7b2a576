/- What package guard's small functions answer, its sum under a key, and Put. -/
import Derived.Test.YtopoogdoepdedaaDoorGdMath
import Derived.Test.YtopoogdoepdedaaDoorGdClone
import Derived.Test.YtopoogdoepdedaaDoorCheckSm
import Derived.Test.YtopoogdoepdedaaDoorBitsOf
import Derived.Test.YtopoogdoepdedaaDoorBitsNumber
namespace Go.Proofs.YtopoogdoepdedaaDoor
open Go.ChangeShapes Go.WideShapes Go.ChangeAt Go.RowKit
namespace Bw
open Bm Cm
def inG (n lo hi : Int) : Bool := decide (lo ≤ n) && decide (n ≤ hi)
theorem inG_yes {n lo hi : Int} (h : lo ≤ n ∧ n ≤ hi) : inG n lo hi = true := by unfold inG; simp [h.1, h.2]
theorem inG_no {n lo hi : Int} (h : ¬ (lo ≤ n ∧ n ≤ hi)) : inG n lo hi = false := by
  cases e : inG n lo hi with
  | false => rfl
  | true => unfold inG at e; simp at e; exact absurd e h
theorem inG_iff {n lo hi : Int} : inG n lo hi = true ↔ lo ≤ n ∧ n ≤ hi := by unfold inG; simp
theorem gwithin_any (n lo hi : Int) (w : World) :
    Calls Tryd.prog 11 #[.int .i64 n, .int .i64 lo, .int .i64 hi] w fun e w' => e = .returned (.bool (inG n lo hi)) ∧ w' = w := by
  by_cases h0 : lo ≤ n
  · by_cases h1 : n ≤ hi
    · rw [inG_yes ⟨h0, h1⟩]
      go_enter Tryd.func11, Tryd.ntmps11
      go_wp2_with fail
      go_ret
      exact ⟨rfl, rfl⟩
    · rw [inG_no (fun h => h1 h.2)]
      go_enter Tryd.func11, Tryd.ntmps11
      go_wp2_with fail
      go_ret
      exact ⟨rfl, rfl⟩
  · rw [inG_no (fun h => h0 h.1)]
    go_enter Tryd.func11, Tryd.ntmps11
    go_wp2_with fail
    go_ret
    exact ⟨rfl, rfl⟩
/-- what is wrong with data of so many bytes -/
def szE (n : Nat) : Int := if n < 2 then 7 else if 64 < n then 2 else 0
theorem szE_ok {n : Nat} (h : szE n = 0) : 2 ≤ n ∧ n ≤ 64 := by
  unfold szE at h
  split at h
  · omega
  · split at h <;> omega
theorem checkSize_any (a : Option Addr) (len cap : Nat) (w : World) (hl : len ≤ maxLen) :
    Calls Tryd.prog 12 #[.slice a len cap] w fun e w' => e = .returned (.int .i64 (szE len)) ∧ w' = w := by
  unfold maxLen at hl
  by_cases h0 : len < 2
  · rw [show szE len = 7 by unfold szE; rw [if_pos h0]]
    have h0' : (len : Int) < 2 := by omega
    go_enter Tryd.func12, Tryd.ntmps12
    go_wp2_with fail
    go_ret
    exact ⟨rfl, rfl⟩
  · by_cases h1 : 64 < len
    · rw [show szE len = 2 by unfold szE; rw [if_neg h0, if_pos h1]]
      have h0' : ¬ ((len : Int) < 2) := by omega
      have h1' : (64 : Int) < (len : Int) := by omega
      go_enter Tryd.func12, Tryd.ntmps12
      go_wp2_with fail
      go_ret
      exact ⟨rfl, rfl⟩
    · rw [show szE len = 0 by unfold szE; rw [if_neg h0, if_neg h1]]
      have h0' : ¬ ((len : Int) < 2) := by omega
      have h1' : ¬ ((64 : Int) < (len : Int)) := by omega
      go_enter Tryd.func12, Tryd.ntmps12
      go_wp2_with fail
      go_ret
      exact ⟨rfl, rfl⟩
def keyB (key : Nat) : ByteArray := ⟨(bitsHead key 16 16).toArray⟩
theorem keyB_list (key : Nat) : (keyB key).data.toList = bitsHead key 16 16 := mk_list _
theorem keyB_size (key : Nat) : (keyB key).size = 16 := by unfold keyB; rw [mk_size, bitsHead_length]
set_option maxHeartbeats 2000000 in
theorem sumUnder_any (key : Nat) (w : World) (hk : key < 65536) :
    Calls Tryd.prog 13 #[.int .i64 key] w fun e w' => ∃ g, e = .returned (.func (.func 23) #[] #[.pointer (some ⟨g, 0, none⟩)]) ∧ w'.cell? ⟨g, 0, none⟩ = some (.string (keyB key)) ∧ Below w.heap.size w w' := by
  have HR := Hid.mk (row_ok key 16 w (by omega) hk)
  rw [show (⟨(bitsHead key 16 16).toArray⟩ : ByteArray) = keyB key from rfl] at HR
  clear hk
  generalize keyB key = K at *
  go_enter Tryd.func13, Tryd.ntmps13
  go_wp2_with fail
  refine HR.out.mono ?_
  rintro e w1 ⟨rfl, hb1⟩
  have HB := Hid.mk (bl2 hb1 (awG w1 (.cells #[.string K] 9)))
  have HN := Hid.mk (cell_of_row _ _ 0 _ _ _ (heap_alloc_new w1 (.cells #[.string K] 9)))
  clear hb1
  go_wp2_with fail
  go_ret
  exact ⟨_, rfl, HN.out, HB.out⟩
theorem isBytes_tail {w : World} {x : Addr} {len cap : Nat} {l : List UInt8} (h : IsBytes w (some x) len cap l) (h1 : 1 ≤ len) : IsBytes w (some (x.add 1)) (len - 1) (cap - 1) (l.drop 1) := by
  obtain ⟨a1, a2, a3, a4, a5⟩ := h
  refine ⟨by rw [List.length_drop, a1], by omega, by omega, fun e => (by cases e), fun y hy i hi => ?_⟩
  cases hy
  rw [Addr.add_add, a5 x rfl (1 + i) (by omega)]
  congr 3
  simp [List.getD, Nat.add_comm 1 i]
set_option maxHeartbeats 4000000 in
set_option maxRecDepth 100000 in
theorem sum1_any (key g : Nat) (x : Addr) (len cap : Nat) (l : List UInt8) (w : World) (hR : RulesAt w) (hK : w.cell? ⟨g, 0, none⟩ = some (.string (keyB key))) (hD : IsBytes w (some x) len cap l) (h2 : 2 ≤ len) (h64 : len ≤ 64) :
    Calls Tryd.prog 23 #[.slice (some x) len cap, .pointer (some ⟨g, 0, none⟩)] w fun e w' => e = .returned (.int .u8 (gSum key l)) ∧ Below w.heap.size w w' := by
  have hlen : l.length = len := hD.1
  have hcap : len ≤ cap := hD.2.1
  have HOF := Hid.mk (of_any (some (x.add 1)) (len - 1) (cap - 1) (l.drop 1) w (by omega) (isBytes_tail hD (by omega)))
  have HCAT : Hid ((keyB key ++ ⟨(ofL (l.drop 1)).toArray⟩ : ByteArray).data.toList = gRow key l) := Hid.mk (by rw [ba_cat, keyB_list, mk_list]; rfl)
  have hrl := gRow_len key l
  have hz1 : (keyB key).size = 16 := keyB_size key
  have hz2 : (⟨(ofL (l.drop 1)).toArray⟩ : ByteArray).size ≤ 1000 := by rw [mk_size, ofL_length, List.length_drop]; omega
  have hck : checkE (gRow key l) = 0 := checkE_row (gRow_row key l) (by omega)
  obtain ⟨T, hT⟩ : ∃ T : ByteArray, T = ⟨(ofL (l.drop 1)).toArray⟩ := ⟨_, rfl⟩
  rw [← hT] at HOF HCAT hz2
  have hz3 : (T.size : Int) ≤ 1000 := by omega
  have hz4 : ((keyB key).size : Int) = 16 := by omega
  have HSM := Hid.mk (fun W (h : Below w.heap.size w W) => sum_ok 3 (keyB key ++ T) W (hR.kept h) (by rw [HCAT.out]; exact hck) (by omega))
  rw [HCAT.out] at HSM
  obtain ⟨U, hU⟩ : ∃ U : ByteArray, U = ⟨(sumL 3 (gRow key l)).toArray⟩ := ⟨_, rfl⟩
  have hUl : U.data.toList = sumL 3 (gRow key l) := by rw [hU, mk_list]
  have hUz : U.size = 8 := by rw [hU, mk_size, sumL_len]; rfl
  rw [← hU] at HSM
  have hnE : numE U.data.toList = 0 := by
    unfold numE
    rw [hUl, checkE_row (sumL_row _ _) (by rw [sumL_len]; decide), if_pos rfl, if_neg (by rw [sumL_len]; decide)]
  have hnV : numV U.data.toList = gSum key l := by
    unfold numV
    rw [if_pos hnE, hUl, gSum_val]
  have hNU := fun W => number_any U W (by unfold maxLen; omega)
  rw [hnE, hnV] at hNU
  have HNU := Hid.mk hNU
  have hS := gSum_lt key l
  have HKK := Hid.mk hK
  clear hNU hnE hnV hUl hUz hck hrl hT hU HCAT hR hD hlen hz1 hz2 hK
  generalize gSum key l = S at *
  have hS' : (S : Int) ≤ 255 := by omega
  have hlen1 : (1 : Int) ≤ (len : Int) := by omega
  have hcap' : (len : Int) ≤ (cap : Int) := by omega
  go_enter Tryd.func23, Tryd.ntmps23
  go_wp2_with fail
  refine HOF.out.mono ?_
  rintro e w1 ⟨rfl, hb1⟩
  have hk1 := cell_kept hb1 HKK.out
  have HB1 := Hid.mk hb1
  clear hb1 HKK HOF
  go_wp2_with fail
  refine (HSM.out _ HB1.out).mono ?_
  rintro e w2 ⟨rfl, hb2⟩
  have HB2 := Hid.mk (bl2 HB1.out hb2)
  clear hb2 hk1 HSM HB1
  go_wp2_with fail
  refine (HNU.out _).mono ?_
  rintro e w3 ⟨rfl, hb3⟩
  have HB3 := Hid.mk (bl2 HB2.out hb3)
  clear hb3 HNU HB2
  go_wp2_with fail
  go_ret
  exact ⟨by first | rfl | (congr 2; omega), HB3.out⟩
/-- Put's error -/
def putE (key ctr : Int) (len : Nat) : Int := if inG key 0 65535 = true ∧ inG ctr 0 14 = true then szE len else 3
theorem putE_ok {key ctr : Int} {len : Nat} (h : putE key ctr len = 0) : (0 ≤ key ∧ key ≤ 65535) ∧ (0 ≤ ctr ∧ ctr ≤ 14) ∧ 2 ≤ len ∧ len ≤ 64 := by
  unfold putE at h
  split at h
  · rename_i h1
    exact ⟨inG_iff.1 h1.1, inG_iff.1 h1.2, szE_ok h⟩
  · omega
set_option maxHeartbeats 2000000 in
theorem put_bad (key ctr : Int) (a : Option Addr) (len cap : Nat) (w : World) (hl : len ≤ maxLen) (hE : putE key ctr len ≠ 0) :
    Calls Tryd.prog 6 #[.int .i64 key, .int .i64 ctr, .slice a len cap] w fun e w' => e = .returned (.tuple #[.slice none 0 0, .int .i64 (putE key ctr len)]) ∧ Below w.heap.size w w' := by
  have hW1 := gwithin_any key 0 65535 w
  have hW2 := gwithin_any ctr 0 14 w
  have hSZ := checkSize_any a len cap w hl
  clear hl
  cases h1 : inG key 0 65535 with
  | false =>
    rw [show putE key ctr len = 3 by unfold putE; rw [if_neg (by rw [h1]; simp)]]
    rw [h1] at hW1
    clear hE h1 hW2 hSZ
    go_enter Tryd.func6, Tryd.ntmps6
    go_wp2_with fail
    refine hW1.mono ?_
    rintro e w1 ⟨rfl, hw1⟩
    subst hw1
    go_wp2_with fail
    go_ret2
    exact ⟨rfl, Below.refl _ _⟩
  | true =>
    rw [h1] at hW1
    cases h2 : inG ctr 0 14 with
    | false =>
      rw [show putE key ctr len = 3 by unfold putE; rw [if_neg (by rw [h2]; simp)]]
      rw [h2] at hW2
      clear hE h1 h2 hSZ
      go_enter Tryd.func6, Tryd.ntmps6
      go_wp2_with fail
      refine hW1.mono ?_
      rintro e w1 ⟨rfl, hw1⟩
      subst hw1
      go_wp2_with fail
      refine hW2.mono ?_
      rintro e w1 ⟨rfl, hw1⟩
      subst hw1
      go_wp2_with fail
      go_ret2
      exact ⟨rfl, Below.refl _ _⟩
    | true =>
      have e : putE key ctr len = szE len := by unfold putE; rw [if_pos ⟨h1, h2⟩]
      rw [e] at hE
      rw [e]
      rw [h2] at hW2
      have hne : (szE len != 0) = true := by simpa using hE
      clear hE h1 h2 e
      generalize szE len = E at *
      go_enter Tryd.func6, Tryd.ntmps6
      go_wp2_with fail
      refine hW1.mono ?_
      rintro e w1 ⟨rfl, hw1⟩
      subst hw1
      go_wp2_with fail
      refine hW2.mono ?_
      rintro e w1 ⟨rfl, hw1⟩
      subst hw1
      go_wp2_with fail
      refine hSZ.mono ?_
      rintro e w1 ⟨rfl, hw1⟩
      subst hw1
      go_wp2_with fail
      go_ret2
      exact ⟨rfl, Below.refl _ _⟩
theorem put_ops : ((List.range 256).all fun c => (List.range 15).all fun n => (bits .or .u8 (bits .andNot .u8 (c : Int) 15) (n : Int) == (ctr c n : Int))) = true := by kernel_rfl
theorem put_op {c n : Nat} (hc : c < 256) (hn : n < 15) : bits .or .u8 (bits .andNot .u8 (c : Int) 15) (n : Int) = (ctr c n : Int) :=
  eq_of_beq (List.all_eq_true.1 (List.all_eq_true.1 put_ops c (List.mem_range.2 hc)) n (List.mem_range.2 hn))
theorem cells_setG (l : List UInt8) (i n : Nat) (hn : n < 256) : (cellsOf l).set i (.int .u8 (n : Int)) = cellsOf (l.set i (UInt8.ofNat n)) := by
  unfold cellsOf
  rw [List.map_set, ofNat_to hn]
set_option maxHeartbeats 8000000 in
set_option maxRecDepth 100000 in
theorem put_ok (key n : Nat) (a : Option Addr) (len cap : Nat) (l : List UInt8) (w : World) (hR : RulesAt w) (hD : IsBytes w a len cap l) (hk : key ≤ 65535) (hn : n ≤ 14) (h2 : 2 ≤ len) (h64 : len ≤ 64) :
    Calls Tryd.prog 6 #[.int .i64 key, .int .i64 n, .slice a len cap] w fun e w' => ∃ g c, e = .returned (.tuple #[.slice (some ⟨g, 0, none⟩) len c, .int .i64 0]) ∧ w'.ownsRow w.heap.size 5 1 (.slice (some ⟨g, 0, none⟩) len c) len (cellsOf (putL key n l)) ∧ w.heap.size ≤ g ∧ Below w.heap.size w w' := by
  cases a with
  | none => exact absurd (hD.2.2.2.1 rfl) (by omega)
  | some x =>
  have hll : l.length = len := hD.1
  have hW1 := gwithin_any (key : Int) 0 65535 w
  rw [inG_yes ⟨by omega, by omega⟩] at hW1
  have hW2 := gwithin_any (n : Int) 0 14 w
  rw [inG_yes ⟨by omega, by omega⟩] at hW2
  have hSZ := checkSize_any (some x) len cap w (Nat.le_trans hD.2.1 hD.2.2.1)
  rw [show szE len = 0 by unfold szE; rw [if_neg (by omega), if_neg (by omega)]] at hSZ
  have HSU := Hid.mk (sumUnder_any key w (by omega))
  have HCL := Hid.mk (fun W (h : Below w.heap.size w W) => cloneBy_some x len cap l W (isBytes_below hD h) (by omega))
  have HS1 := Hid.mk (fun g y c L W (hb : Below w.heap.size w W) (hK : W.cell? ⟨g, 0, none⟩ = some (.string (keyB key))) (hY : IsBytes W (some y) len c L) => sum1_any key g y len c L W (hR.kept hb) hK hY h2 h64)
  obtain ⟨y, hy⟩ : ∃ y, y = (l.getD 1 0).toNat := ⟨_, rfl⟩
  have hy256 : y < 256 := by rw [hy]; exact UInt8.toNat_lt _
  have hop := put_op hy256 (show n < 15 by omega)
  have hcl := ctr_lt hy256 (show n < 16 by omega)
  have hset1 := cells_setG l 1 (ctr y n) hcl
  have e1 : l.set 1 (UInt8.ofNat (ctr y n)) = cntL n l := by unfold cntL; rw [hy]
  rw [e1] at hset1
  have hset0 := cells_setG (cntL n l) 0 (gSum key (cntL n l)) (gSum_lt _ _)
  have e0 : (cntL n l).set 0 (UInt8.ofNat (gSum key (cntL n l))) = putL key n l := rfl
  rw [e0] at hset0
  have hat1 := cells_atG l 1 (by omega)
  rw [← hy] at hat1
  have hcn : (cntL n l).length = len := by rw [cntL_len]; exact hll
  have hat0 := cells_atG (cntL n l) 0 (by omega)
  have HAT1 := Hid.mk hat1
  have HAT0 := Hid.mk hat0
  have HSET1 := Hid.mk hset1
  have HSET0 := Hid.mk hset0
  have hS := gSum_lt key (cntL n l)
  have hcl' : (ctr y n : Int) ≤ 255 := by omega
  have hy' : (y : Int) ≤ 255 := by omega
  have hn' : (n : Int) ≤ 14 := by omega
  have hlen2 : (2 : Int) ≤ (len : Int) := by omega
  have hlen3 : 1 < len := by omega
  have hlen4 : 0 < len := by omega
  obtain ⟨S, hGS⟩ : ∃ S, gSum key (cntL n l) = S := ⟨_, rfl⟩
  rw [hGS] at hS HSET0
  have HGS := Hid.mk hGS
  clear hy hy256 hcl hset1 e1 hset0 e0 hat1 hat0 hD hR hll h64 hcn hGS
  generalize ((cntL n l).getD 0 0).toNat = y0 at *
  generalize cntL n l = L at *
  generalize putL key n l = LP at *
  generalize ctr y n = cy at *
  generalize keyB key = K at *
  have hS' : (S : Int) ≤ 255 := by omega
  go_enter Tryd.func6, Tryd.ntmps6
  go_wp2_with fail
  refine hW1.mono ?_
  rintro e w1 ⟨rfl, hw1⟩
  subst hw1
  go_wp2_with fail
  refine hW2.mono ?_
  rintro e w1 ⟨rfl, hw1⟩
  subst hw1
  go_wp2_with fail
  refine hSZ.mono ?_
  rintro e w1 ⟨rfl, hw1⟩
  subst hw1
  clear hW1 hW2 hSZ
  go_wp2_with fail
  refine HSU.out.mono ?_
  rintro e w1 ⟨gk, rfl, hK1, hb1⟩
  have HB1 := Hid.mk hb1
  have HK1 := Hid.mk hK1
  clear hK1 hb1 HSU
  go_wp2_with fail
  refine (HCL.out _ HB1.out).mono ?_
  rintro e w2 ⟨g, c, rfl, hown, hg, hb2⟩
  have HG := Hid.mk hg
  have HO2 := Hid.mk hown
  have hc2 := HO2.out.cellAt 1 (by omega)
  have hf2 := HO2.out.frozenAt 1
  rw [HAT1.out] at hc2
  have hst := HO2.out.stored 1 (.int .u8 (cy : Int))
  rw [HSET1.out] at hst
  have hB3 := hb2.grown hst.2 hb2.size (fun q hq => by cases hq; exact HG.out)
  have HB3 := Hid.mk hB3
  have HO3 := Hid.mk hst.1
  have HSM := Hid.mk (HS1.out gk ⟨g, 0, none⟩ c L _ (bl2 HB1.out hB3) (cell_kept hB3 HK1.out) (isBytes_ownG hst.1))
  rw [HGS.out] at HSM
  clear hown hg hb2 hst HK1 HCL hB3 HS1 HO2
  go_wp2_with fail
  refine HSM.out.mono ?_
  rintro e w4 ⟨rfl, hb4⟩
  have HO4 := Hid.mk (ownsRow_below HO3.out hb4)
  have HB4 := Hid.mk (bl2 HB3.out hb4)
  have hc4 := HO4.out.cellAt 0 (by omega)
  have hf4 := HO4.out.frozenAt 0
  rw [HAT0.out] at hc4
  have hst := HO4.out.stored 0 (.int .u8 (S : Int))
  rw [HSET0.out] at hst
  have HO5 := Hid.mk hst.1
  have HB5 := Hid.mk (HB4.out.grown hst.2 HB4.out.size (fun q hq => by cases hq; exact HG.out))
  clear hb4 hst hc2 hf2 HSM HO3 HB3
  go_wp2_with fail
  go_ret2
  exact ⟨g, c, rfl, owns_baseG HO5.out HB1.out.size, Nat.le_trans HB1.out.size HG.out, bl2 HB1.out HB5.out⟩
end Bw
end Go.Proofs.YtopoogdoepdedaaDoor
