/- What the document's own fastEnd answers: the count and the sum of a fast frame, with its fixed bits. -/
import Derived.Test.YtemohjamcdkcmaaGreatDoorC1
import Derived.Test.YtemohjamcdkcmaaGreatDoorShelfCnt
import Derived.Test.YtemohjamcdkcmaaGreatDoorC2
import Derived.Test.YtemohjamcdkcmaaGreatDoorRefSum
import Derived.BigQuiet
import Derived.Lib.QuietBelow
namespace Go.Proofs.YtemohjamcdkcmaaGreatDoor
open Go.ChangeShapes Go.WideShapes Go.ChangeAt Go.RowKit
namespace Bw
open Bm

theorem count_row (l : List UInt8) : Lib.countByte l 48 + Lib.countByte l 49 ≤ l.length ∧ (Lib.countByte l 48 + Lib.countByte l 49 = l.length ↔ rowB l = true) := by
  unfold Lib.countByte rowB
  induction l with
  | nil => simp
  | cons c l ih =>
    simp only [List.count_cons, List.length_cons, List.all_cons, Bool.and_eq_true]
    obtain ⟨h1, h2⟩ := ih
    by_cases hc : bit c = true
    · have e : (if (c == 48) = true then 1 else 0) + (if (c == 49) = true then 1 else 0) = 1 := by
        rcases (bit_iff c).1 hc with h | h
        · have : c = 48 := UInt8.toNat_inj.1 (by show c.toNat = 48; omega)
          subst this; rfl
        · have : c = 49 := UInt8.toNat_inj.1 (by show c.toNat = 49; omega)
          subst this; rfl
      refine ⟨by omega, ?_⟩
      rw [← h2]
      exact ⟨fun h => ⟨hc, by omega⟩, fun h => by omega⟩
    · have e : (if (c == 48) = true then 1 else 0) + (if (c == 49) = true then 1 else 0) = 0 := by
        unfold bit at hc
        simp only [Bool.or_eq_true, not_or] at hc
        rw [if_neg hc.1, if_neg hc.2]
      exact ⟨by omega, fun h => by omega, fun h => absurd h.1 hc⟩

set_option maxHeartbeats 1000000 in
theorem checkRow_any (s : ByteArray) (w : World) (hs : s.size ≤ maxLen) :
    Calls Tryz.prog 18 #[.string s] w fun e w' => e = .returned (.int .i64 (checkE s.data.toList)) ∧ w' = w := by
  obtain ⟨h1, h2⟩ := count_row s.data.toList
  have hl : s.data.toList.length = s.size := by simp
  rw [hl] at h1 h2
  unfold maxLen at hs
  have c1 := fun W => Tryz.strings_Count_one s 48 W
  have c2 := fun W => Tryz.strings_Count_one s 49 W
  unfold checkE
  rw [hl]
  generalize Lib.countByte s.data.toList 48 = a at *
  generalize Lib.countByte s.data.toList 49 = b at *
  by_cases h0 : 1000 < s.size
  · rw [if_pos h0]
    clear c1 c2 h2 hl
    go_enter Tryz.func18, Tryz.ntmps18
    go_wp2_with fail
    go_ret
    exact ⟨rfl, rfl⟩
  · rw [if_neg h0]
    by_cases h3 : a + b = s.size
    · rw [if_pos (h2.1 h3)]
      have h3' : (((a : Int) + (b : Int)) == (s.size : Int)) = true := by simp; omega
      have HL := Hid.mk hl
      clear h2 hl h3
      go_enter Tryz.func18, Tryz.ntmps18
      go_wp2_with fail
      refine (c1 _).mono ?_
      rintro e w1 ⟨rfl, rfl⟩
      go_wp2_with fail
      refine (c2 _).mono ?_
      rintro e w1 ⟨rfl, rfl⟩
      clear c1 c2
      go_wp2_with fail
      go_ret
      exact ⟨rfl, rfl⟩
    · rw [if_neg (fun h => h3 (h2.2 h))]
      have h3' : (((a : Int) + (b : Int)) == (s.size : Int)) = false := by simp; omega
      clear h2 hl h3
      go_enter Tryz.func18, Tryz.ntmps18
      go_wp2_with fail
      refine (c1 _).mono ?_
      rintro e w1 ⟨rfl, rfl⟩
      go_wp2_with fail
      refine (c2 _).mono ?_
      rintro e w1 ⟨rfl, rfl⟩
      clear c1 c2
      go_wp2_with fail
      go_ret
      exact ⟨rfl, rfl⟩
end Bw
end Go.Proofs.YtemohjamcdkcmaaGreatDoor
namespace Go.Proofs.YtemohjamcdkcmaaGreatDoor
open Go.ChangeShapes Go.WideShapes Go.ChangeAt Go.RowKit
namespace Bw
open Bm

set_option maxHeartbeats 400000 in
theorem otherR_any (c : UInt8) (w : World) :
    Calls Tryz.prog 27 #[.int .u8 c.toNat] w fun e w' => e = .returned (.int .u8 (otb c).toNat) ∧ w' = w := by
  unfold otb
  by_cases h : c = 48
  · subst h
    rw [if_pos rfl]
    go_enter Tryz.func27, Tryz.ntmps27
    go_wp2; go_ret; exact ⟨rfl, rfl⟩
  · rw [if_neg h]
    have h' : ((c.toNat : Int) == 48) = false := by
      have : c.toNat ≠ (48 : UInt8).toNat := fun e => h (UInt8.toNat_inj.1 e)
      rw [beq_eq_false_iff_ne]
      intro e
      exact this (by show c.toNat = 48; omega)
    go_enter Tryz.func27, Tryz.ntmps27
    go_wp2; go_ret; exact ⟨rfl, rfl⟩

theorem convert_lit (W : World) (g : Nat) (d : UInt8) (hg : W.heap[g]? = some (.cells #[.int .u8 d.toNat] 5 (0, 0))) :
    (convert 22 9 (.slice (some ⟨g, 0, none⟩) 1 1)).run Tryz.prog W = .ok (.string ⟨#[d]⟩) W :=
  run_convert_bytes_back W 22 9 5 ⟨g, 0, none⟩ 1 [d] Tryz.underlying22 Tryz.underlying5 Tryz.underlying9 (fun j hj => by
    match j, hj with
    | 0, _ => exact cell_of_row W g 0 _ _ _ hg)
theorem one_at (s : ByteArray) (k : Nat) (h : k < s.size) : s.extract k (k + 1) = ⟨#[s[k]]⟩ := by
  have e : (s.extract k (k + 1)).data.toList = [s[k]] := by
    rw [extract_list s k 1, List.take_one, List.head?_drop]
    have h' : k < s.data.toList.length := by simpa using h
    rw [List.getElem?_eq_getElem h']
    rfl
  exact ba_eq e
theorem ext_size (s : ByteArray) (i j : Nat) (h : j ≤ s.size) : (s.extract i j).size = j - i := by
  rw [ByteArray.size_extract]; omega

end Bw
end Go.Proofs.YtemohjamcdkcmaaGreatDoor
namespace Go.Proofs.YtemohjamcdkcmaaGreatDoor
open Go.ChangeShapes Go.WideShapes Go.ChangeAt Go.RowKit
namespace Bw
open Bm

set_option maxHeartbeats 8000000 in
theorem fixBits_any (s : ByteArray) (a : UInt8) (w : World) (h1000 : s.size ≤ 1000) :
    Calls Tryz.prog 84 #[.string s, .int .u8 a.toNat] w fun e w' => e = .returned (.string ⟨(fixR s.data.toList a s.size).toArray⟩) ∧ Below w.heap.size w w' := by
  have hll : s.data.toList.length = s.size := by simp
  have HLL := Hid.mk hll
  clear hll
  go_enter Tryz.func84, Tryz.ntmps84
  go_wp2_with fail
  go_loopw [1, 5, 6] (fun av r i wr => ∃ (k : Nat) (sb : ByteArray), k % 4 = 0 ∧ k ≤ s.size + 3 ∧ i = .int .i64 k ∧ r = .string sb ∧ av = .int .u8 (fixP s.data.toList a (min k s.size)).toNat ∧ sb.data.toList = fixR s.data.toList a (min k s.size) ∧ Below w.heap.size w wr) (fun _ _ i _ => s.size + 4 - (intOf i).toNat)
  case atStart => exact ⟨0, ⟨#[]⟩, rfl, Nat.zero_le _, rfl, rfl, by rw [Nat.zero_min]; rfl, by rw [Nat.zero_min]; rfl, Below.refl _ _⟩
  case round =>
    obtain ⟨k, sb, hk4, hk, rfl, rfl, rfl, hsb, hbel⟩ := hrel
    by_cases hlt : k < s.size
    · have hlt' : (k : Int) < (s.size : Int) := by omega
      rw [Nat.min_eq_left (by omega)] at hsb
      rw [Nat.min_eq_left (by omega)]
      obtain ⟨p, hp⟩ : ∃ p, p = fixP s.data.toList a k := ⟨_, rfl⟩
      rw [← hp]
      obtain ⟨q, hq⟩ : ∃ q, q = min 4 (s.size - k) := ⟨_, rfl⟩
      have hq1 : 1 ≤ q := by omega
      have hq4 : q ≤ 4 := by omega
      have hqs : k + q ≤ s.size := by omega
      have hblk := fixR_block s.data.toList a k hk4 q hq1 hq4 (by rw [HLL.out]; exact hqs)
      obtain ⟨t, ht⟩ : ∃ t, t = s.extract k (k + q) := ⟨_, rfl⟩
      have htl : t.data.toList = (s.data.toList.drop k).take q := by rw [ht]; exact extract_list s k q
      have hts : t.size = q := by rw [ht, ByteArray.size_extract]; omega
      have hsl : ∀ W, (Instr.slice 9 (.string s) (some (.int .i64 (k : Int))) (some (.int .i64 (min (IntKind.i64.wrap ((k : Int) + 4)) (s.size : Int)))) none).run Tryz.prog W = .ok (.string t) W := by
        intro W
        rw [show IntKind.i64.wrap ((k : Int) + 4) = (k : Int) + 4 by rw [IntKind.wrap_i64]; omega]
        rw [run_slice_string W _ s _ _ _ _ Tryz.underlying9 (by omega) (by omega) (by omega)]
        rw [show (k : Int).toNat = k by omega, show (min ((k : Int) + 4) (s.size : Int)).toNat = k + q by omega, ht]
      have hcv := convert_lit (wr.alloc (.cells #[.int .u8 (otb p).toNat] 5)).drew wr.heap.size (otb p) (heap_alloc_new wr _)
      have hk1 : (k : Int) < 1000 := by omega
      have hts4 : (t.size : Int) ≤ 4 := by omega
      have hsbs : sb.size ≤ 2000 := by
        have e : sb.size = sb.data.toList.length := by simp
        rw [e, hsb]
        have := fixR_len s.data.toList a k
        omega
      have HP := Hid.mk hp
      have HBLK := Hid.mk hblk
      have HSB := Hid.mk hsb
      have HTL := Hid.mk htl
      have HQ := Hid.mk hq
      have HTS := Hid.mk hts
      clear hp hblk hsb htl ht hq hts
      go_wp2_with fail
      set_option maxRecDepth 100000 in
      go_region_with (go_at_call 27; refine (otherR_any p _).mono ?_; rintro e w2 ⟨rfl, hw2⟩; subst hw2)
      all_goals focus
        generalize hX : sb ++ (⟨#[otb p]⟩ ++ t) = X
        have hXl : X.data.toList = fixR s.data.toList a (k + q) := by rw [← hX, ba_cat, ba_cat, HBLK.out, HSB.out, HTL.out, HP.out]
        have hXs : X.size = sb.size + (1 + t.size) := by rw [← hX, ByteArray.size_append, ByteArray.size_append]; rfl
        have hX1 : (1 : Int) ≤ (X.size : Int) := by omega
        have hX2 : (X.size : Int) ≤ 2010 := by omega
        have hXp : X.size - 1 < X.size := by omega
        have hxi : X[X.size - 1] = fixP s.data.toList a (k + q) := by
          rw [at_getD X _ hXp]
          have e1 : X.size = X.data.toList.length := by simp
          rw [e1, hXl]
          obtain ⟨q', rfl⟩ : ∃ q', q = q' + 1 := ⟨q - 1, by omega⟩
          exact fixR_last s.data.toList a (k + q')
        obtain ⟨c, hc⟩ : ∃ c, c = fixP s.data.toList a (k + q) := ⟨_, rfl⟩
        rw [← hc] at hxi
        have HC := Hid.mk hc
        have HXL := Hid.mk hXl
        have hbel2 : Below w.heap.size w ((wr.alloc (.cells #[.int .u8 (otb p).toNat] 5)).drew) := (hbel.alloc hbel.size _).drew
        have hmin : min (k + 4) s.size = k + q := by have := HQ.out; omega
        have HMIN := Hid.mk hmin
        clear hX hXs hXl hc hsl hcv hmin
        go_wp2_with fail
        go_roundw
        case rel => exact ⟨k + 4, X, by omega, by omega, by go_num, rfl, by rw [HMIN.out, ← HC.out], by rw [HMIN.out]; exact HXL.out, hbel2⟩
        case measure => simp [intOf]; omega
    · have e : min k s.size = s.size := by omega
      rw [e] at hsb
      have hge : decide ((k : Int) < (s.size : Int)) = false := by rw [decide_eq_false_iff_not]; omega
      have HF := Hid.mk hsb
      clear hsb e
      go_wp2_with fail
      go_ret
      exact ⟨ret_str1 HF.out, hbel⟩
end Bw
end Go.Proofs.YtemohjamcdkcmaaGreatDoor
namespace Go.Proofs.YtemohjamcdkcmaaGreatDoor
open Go.ChangeShapes Go.WideShapes Go.ChangeAt Go.RowKit
namespace Bw
open Bm Cm Go.Sort

def grayC : Obj := .cells #[.string ⟨#[48, 48, 48, 48]⟩, .string ⟨#[48, 48, 49, 49]⟩, .string ⟨#[48, 49, 49, 48]⟩, .string ⟨#[48, 49, 48, 49]⟩, .string ⟨#[49, 49, 48, 48]⟩, .string ⟨#[49, 49, 49, 49]⟩, .string ⟨#[49, 48, 49, 48]⟩, .string ⟨#[49, 48, 48, 49]⟩] 9
theorem gray_cell (w : World) (g n : Nat) (hg : g = w.heap.size) (hn : n < 8) : (w.alloc grayC).cell? ⟨g, n, none⟩ = some (.string ⟨(grayL n).toArray⟩) := by
  subst hg
  rw [cell_of_row _ _ n _ _ _ (heap_alloc_new w grayC)]
  match n, hn with
  | 0, _ => rfl
  | 1, _ => rfl
  | 2, _ => rfl
  | 3, _ => rfl
  | 4, _ => rfl
  | 5, _ => rfl
  | 6, _ => rfl
  | 7, _ => rfl

set_option maxHeartbeats 4000000 in
theorem fastEnd_any (h p : ByteArray) (n : Nat) (w : World) (hD : w.cell? ⟨5, 1, none⟩ = some (.int .u8 1)) (hle : h.size ≤ p.size) (hp1 : 1 ≤ p.size) (hp : p.size ≤ 900) (hrow : rowB p.data.toList = true) (hn : n ≤ 1000) :
    Calls Tryz.prog 45 #[.string h, .string p, .int .i64 n] w fun e w' => e = .returned (.string ⟨(fastL h.data.toList p.data.toList n).toArray⟩) ∧ Below w.heap.size w w' := by
  have hhl : h.data.toList.length = h.size := by simp
  have hpl : p.data.toList.length = p.size := by simp
  have hm8 : (p.size - h.size) % 8 < 8 := Nat.mod_lt _ (by omega)
  have hgc := gray_cell w w.heap.size ((p.size - h.size) % 8) rfl hm8
  have hgr := gray_row ((p.size - h.size) % 8) hm8
  have hbA : Below w.heap.size w (w.alloc grayC) := (Below.refl _ _).alloc (Nat.le_refl _) _
  have hDA := cell_kept hbA hD
  unfold fastL fixL tailL lastB
  rw [hhl, hpl]
  have hcl := mk_list (grayL ((p.size - h.size) % 8))
  generalize grayL ((p.size - h.size) % 8) = gl at *
  obtain ⟨C, hC⟩ : ∃ C, C = ByteArray.mk gl.toArray := ⟨_, rfl⟩
  rw [← hC] at hgc hcl
  have hCs : C.size = 4 := by rw [ba_size hcl, hgr.2]
  obtain ⟨Y, hY⟩ : ∃ Y, Y = p ++ C := ⟨_, rfl⟩
  have hYl : Y.data.toList = p.data.toList ++ gl := by rw [hY, ba_cat, hcl]
  have hYs : Y.size = p.size + 4 := by rw [ba_size hYl, List.length_append, hgr.2, hpl]
  have hYr : rowB Y.data.toList = true := by rw [hYl, rowB_append, hrow, hgr.1]; rfl
  have hso := fun W hW => Ww.sumOf_any (endK n) Y W hW (endK_le n) (by omega) hYr
  rw [hYl] at hso
  rw [show bitsHead (sumV (endK n) (p.data.toList ++ gl)) (kS (endK n)) (kS (endK n)) = sumL (endK n) (p.data.toList ++ gl) from rfl] at hso
  have hsl := mk_list (sumL (endK n) (p.data.toList ++ gl))
  have hsn := sumL_len (endK n) (p.data.toList ++ gl)
  generalize sumL (endK n) (p.data.toList ++ gl) = sl at *
  generalize ByteArray.mk sl.toArray = S at *
  obtain ⟨Z, hZ⟩ : ∃ Z, Z = C ++ S := ⟨_, rfl⟩
  have hZl : Z.data.toList = gl ++ sl := by rw [hZ, ba_cat, hcl, hsl]
  have hk21 := (kinds_ok (endK n) (endK_le n)).2.1
  have hSs : S.size ≤ 21 := by rw [ba_size hsl, hsn]; exact hk21
  have hZs : Z.size = (gl ++ sl).length := ba_size hZl
  have hfx := fun W => fixBits_any Z (p.data.toList.getD (p.size - 1) 0) W (by rw [hZs, List.length_append, hgr.2, hsn]; omega)
  rw [hZl, hZs] at hfx
  have hpz : p.size - 1 < p.size := by clear hYs hCs hZs; omega
  have hpi : p[p.size - 1] = p.data.toList.getD (p.size - 1) 0 := at_getD p _ hpz
  obtain ⟨q, hq⟩ : ∃ q, q = (p.size - h.size) % 8 := ⟨_, rfl⟩
  rw [← hq] at hgc hm8
  have hqi : ((p.size : Int) - (h.size : Int)).tmod 8 = (q : Int) := by
    have e : (p.size : Int) - (h.size : Int) = ((p.size - h.size : Nat) : Int) := by omega
    rw [e, hq]
    rw [Int.tmod_eq_emod_of_nonneg (by omega)]
    omega
  have hq8 : (q : Int) < 8 := by omega
  have HSO := Hid.mk hso
  have HFX := Hid.mk hfx
  have HYE := Hid.mk hY
  have HZE := Hid.mk hZ
  have HDA := Hid.mk hDA
  have hCm : C.size ≤ 4 := by omega
  have hpe : (1 : Int) ≤ (p.size : Int) := by omega
  have hlei : (h.size : Int) ≤ (p.size : Int) := by omega
  unfold grayC at hgc hDA hbA HDA
  have hek : (endK n : Int) = if (16 : Int) < (n : Int) then 2 else 1 := by unfold endK; split <;> split <;> omega
  generalize p.data.toList.getD (p.size - 1) 0 = lb at *
  clear hhl hpl hgr hcl hCs hYl hYs hYr hso hsl hsn hZl hZs hfx hDA hq hC hY hZ hrow
  by_cases h16 : (16 : Int) < (n : Int)
  · rw [if_pos h16] at hek
    have hs2 := HSO.out
    simp only [hek, HYE.out] at hs2
    have HS2 := Hid.mk hs2
    have hf2 := HFX.out
    simp only [HZE.out] at hf2
    have HF2 := Hid.mk hf2
    clear hek hs2 hf2
    go_enter Tryz.func45, Tryz.ntmps45
    set_option maxRecDepth 100000 in
    go_wp2_with fail
    obtain ⟨w1, hw1⟩ : ∃ w1, w1 = w.alloc grayC := ⟨_, rfl⟩
    unfold grayC at hw1
    rw [← hw1] at hbA HDA ⊢
    clear hw1 hgc
    refine wp_region_quiet_below (by kernel_rfl) (by kernel_rfl) ?_
    set_option maxRecDepth 100000 in
    repeat (go_big_quiet_step (first
      | (go_at_call 44; exact Calls.regrown_of (HS2.out _ (cell_regrown HDA.out _ _)))
      | (go_at_call 84; exact Calls.regrown_of (HF2.out _))))
    refine wpQuiet_nil ?_
    intro _ hw'
    obtain ⟨⟨dq, osq⟩, hw''⟩ := hw'
    subst hw''
    have hbq := bl2 hbA (below_regrown w1 dq osq)
    go_wp2_with fail
    go_ret
    exact ⟨rfl, hbq⟩
  · rw [if_neg h16] at hek
    have hs2 := HSO.out
    simp only [hek, HYE.out] at hs2
    have HS2 := Hid.mk hs2
    have hf2 := HFX.out
    simp only [HZE.out] at hf2
    have HF2 := Hid.mk hf2
    clear hek hs2 hf2
    go_enter Tryz.func45, Tryz.ntmps45
    set_option maxRecDepth 100000 in
    go_wp2_with fail
    obtain ⟨w1, hw1⟩ : ∃ w1, w1 = w.alloc grayC := ⟨_, rfl⟩
    unfold grayC at hw1
    rw [← hw1] at hbA HDA ⊢
    clear hw1 hgc
    refine wp_region_quiet_below (by kernel_rfl) (by kernel_rfl) ?_
    set_option maxRecDepth 100000 in
    repeat (go_big_quiet_step (first
      | (go_at_call 44; exact Calls.regrown_of (HS2.out _ (cell_regrown HDA.out _ _)))
      | (go_at_call 84; exact Calls.regrown_of (HF2.out _))))
    refine wpQuiet_nil ?_
    intro _ hw'
    obtain ⟨⟨dq, osq⟩, hw''⟩ := hw'
    subst hw''
    have hbq := bl2 hbA (below_regrown w1 dq osq)
    go_wp2_with fail
    go_ret
    exact ⟨rfl, hbq⟩
end Bw
end Go.Proofs.YtemohjamcdkcmaaGreatDoor
