/- Joined out of our texts: RefOther, RefFix. -/
import Derived.Test.YthdhhmflfdbkhaaGreatDoorLawWireNoiseRAR
import Derived.Test.YthdhhmflfdbkhaaGreatDoorStuffMath
/- What the document's own Other answers, and facts on pieces of texts. -/
namespace Go.Proofs.YthdhhmflfdbkhaaGreatDoor
open Go.ChangeShapes Go.WideShapes Go.ChangeAt Go.RowKit
namespace Bw
open Bm

set_option maxHeartbeats 400000 in
theorem otherR_any (c : UInt8) (w : World) :
    Calls Tryz.prog 20 #[.int .u8 c.toNat] w fun e w' => e = .returned (.int .u8 (otb c).toNat) ∧ w' = w := by
  unfold otb
  by_cases h : c = 48
  · subst h
    rw [if_pos rfl]
    go_enter Tryz.func20, Tryz.ntmps20
    go_wp2; go_ret; exact ⟨rfl, rfl⟩
  · rw [if_neg h]
    have h' : ((c.toNat : Int) == 48) = false := by
      have : c.toNat ≠ (48 : UInt8).toNat := fun e => h (UInt8.toNat_inj.1 e)
      rw [beq_eq_false_iff_ne]
      intro e
      exact this (by show c.toNat = 48; omega)
    go_enter Tryz.func20, Tryz.ntmps20
    go_wp2; go_ret; exact ⟨rfl, rfl⟩

theorem convert_lit (W : World) (g : Nat) (d : UInt8) (hg : W.heap[g]? = some (.cells #[.int .u8 d.toNat] 5 (0, 0))) :
    (convert 22 9 (.slice (some ⟨g, 0, none⟩) 1 1)).run Tryz.prog W = .ok (.string ⟨#[d]⟩) W :=
  run_convert_bytes_back W 22 9 5 ⟨g, 0, none⟩ 1 [d] Tryz.underlying22 Tryz.underlying5 Tryz.underlying9 (fun j hj => by
    match j, hj with
    | 0, _ => exact cell_of_row W g 0 _ _ _ hg)
theorem one_at (s : ByteArray) (k : Nat) (h : k < s.size) : s.extract k (k + 1) = ⟨#[s[k]]⟩ := by
  have e : (s.extract k (k + 1)).data.toList = [s[k]] := by
    rw [extract_list s k 1, List.take_one, List.head?_drop]
    have h' : k < s.data.toList.length := by simpa using h
    rw [List.getElem?_eq_getElem h']
    rfl
  exact ba_eq e
theorem ext_size (s : ByteArray) (i j : Nat) (h : j ≤ s.size) : (s.extract i j).size = j - i := by
  rw [ByteArray.size_extract]; omega

end Bw
end Go.Proofs.YthdhhmflfdbkhaaGreatDoor

/- What the document's own FixBits answers of a row and a bit. -/
namespace Go.Proofs.YthdhhmflfdbkhaaGreatDoor
open Go.ChangeShapes Go.WideShapes Go.ChangeAt Go.RowKit
namespace Bw
open Bm

set_option maxHeartbeats 8000000 in
theorem fixBits_any (s : ByteArray) (a : UInt8) (w : World) (h1000 : s.size ≤ 1000) :
    Calls Tryz.prog 75 #[.string s, .int .u8 a.toNat] w fun e w' => e = .returned (.string ⟨(fixR s.data.toList a s.size).toArray⟩) ∧ Below w.heap.size w w' := by
  have hll : s.data.toList.length = s.size := by simp
  have HLL := Hid.mk hll
  clear hll
  go_enter Tryz.func75, Tryz.ntmps75
  go_wp2_with fail
  go_loopw [1, 5, 6] (fun av r i wr => ∃ (k : Nat) (sb : ByteArray), k % 4 = 0 ∧ k ≤ s.size + 3 ∧ i = .int .i64 k ∧ r = .string sb ∧ av = .int .u8 (fixP s.data.toList a (min k s.size)).toNat ∧ sb.data.toList = fixR s.data.toList a (min k s.size) ∧ Below w.heap.size w wr) (fun _ _ i _ => s.size + 4 - (intOf i).toNat)
  case atStart => exact ⟨0, ⟨#[]⟩, rfl, Nat.zero_le _, rfl, rfl, by rw [Nat.zero_min]; rfl, by rw [Nat.zero_min]; rfl, Below.refl _ _⟩
  case round =>
    obtain ⟨k, sb, hk4, hk, rfl, rfl, rfl, hsb, hbel⟩ := hrel
    by_cases hlt : k < s.size
    · have hlt' : (k : Int) < (s.size : Int) := by omega
      rw [Nat.min_eq_left (by omega)] at hsb
      rw [Nat.min_eq_left (by omega)]
      obtain ⟨p, hp⟩ : ∃ p, p = fixP s.data.toList a k := ⟨_, rfl⟩
      rw [← hp]
      obtain ⟨q, hq⟩ : ∃ q, q = min 4 (s.size - k) := ⟨_, rfl⟩
      have hq1 : 1 ≤ q := by omega
      have hq4 : q ≤ 4 := by omega
      have hqs : k + q ≤ s.size := by omega
      have hblk := fixR_block s.data.toList a k hk4 q hq1 hq4 (by rw [HLL.out]; exact hqs)
      obtain ⟨t, ht⟩ : ∃ t, t = s.extract k (k + q) := ⟨_, rfl⟩
      have htl : t.data.toList = (s.data.toList.drop k).take q := by rw [ht]; exact extract_list s k q
      have hts : t.size = q := by rw [ht, ByteArray.size_extract]; omega
      have hsl : ∀ W, (Instr.slice 9 (.string s) (some (.int .i64 (k : Int))) (some (.int .i64 (min (IntKind.i64.wrap ((k : Int) + 4)) (s.size : Int)))) none).run Tryz.prog W = .ok (.string t) W := by
        intro W
        rw [show IntKind.i64.wrap ((k : Int) + 4) = (k : Int) + 4 by rw [IntKind.wrap_i64]; omega]
        rw [run_slice_string W _ s _ _ _ _ Tryz.underlying9 (by omega) (by omega) (by omega)]
        rw [show (k : Int).toNat = k by omega, show (min ((k : Int) + 4) (s.size : Int)).toNat = k + q by omega, ht]
      have hcv := convert_lit (wr.alloc (.cells #[.int .u8 (otb p).toNat] 5)).drew wr.heap.size (otb p) (heap_alloc_new wr _)
      have hk1 : (k : Int) < 1000 := by omega
      have hts4 : (t.size : Int) ≤ 4 := by omega
      have hsbs : sb.size ≤ 2000 := by
        have e : sb.size = sb.data.toList.length := by simp
        rw [e, hsb]
        have := fixR_len s.data.toList a k
        omega
      have HP := Hid.mk hp
      have HBLK := Hid.mk hblk
      have HSB := Hid.mk hsb
      have HTL := Hid.mk htl
      have HQ := Hid.mk hq
      have HTS := Hid.mk hts
      clear hp hblk hsb htl ht hq hts
      go_wp2_with fail
      set_option maxRecDepth 100000 in
      go_region_with (go_at_call 20; refine (otherR_any p _).mono ?_; rintro e w2 ⟨rfl, hw2⟩; subst hw2)
      all_goals focus
        generalize hX : sb ++ (⟨#[otb p]⟩ ++ t) = X
        have hXl : X.data.toList = fixR s.data.toList a (k + q) := by rw [← hX, ba_cat, ba_cat, HBLK.out, HSB.out, HTL.out, HP.out]
        have hXs : X.size = sb.size + (1 + t.size) := by rw [← hX, ByteArray.size_append, ByteArray.size_append]; rfl
        have hX1 : (1 : Int) ≤ (X.size : Int) := by omega
        have hX2 : (X.size : Int) ≤ 2010 := by omega
        have hXp : X.size - 1 < X.size := by omega
        have hxi : X[X.size - 1] = fixP s.data.toList a (k + q) := by
          rw [at_getD X _ hXp]
          have e1 : X.size = X.data.toList.length := by simp
          rw [e1, hXl]
          obtain ⟨q', rfl⟩ : ∃ q', q = q' + 1 := ⟨q - 1, by omega⟩
          exact fixR_last s.data.toList a (k + q')
        obtain ⟨c, hc⟩ : ∃ c, c = fixP s.data.toList a (k + q) := ⟨_, rfl⟩
        rw [← hc] at hxi
        have HC := Hid.mk hc
        have HXL := Hid.mk hXl
        have hbel2 : Below w.heap.size w ((wr.alloc (.cells #[.int .u8 (otb p).toNat] 5)).drew) := (hbel.alloc hbel.size _).drew
        have hmin : min (k + 4) s.size = k + q := by have := HQ.out; omega
        have HMIN := Hid.mk hmin
        clear hX hXs hXl hc hsl hcv hmin
        go_wp2_with fail
        go_roundw
        case rel => exact ⟨k + 4, X, by omega, by omega, by go_num, rfl, by rw [HMIN.out, ← HC.out], by rw [HMIN.out]; exact HXL.out, hbel2⟩
        case measure => simp [intOf]; omega
    · have e : min k s.size = s.size := by omega
      rw [e] at hsb
      have hge : decide ((k : Int) < (s.size : Int)) = false := by rw [decide_eq_false_iff_not]; omega
      have HF := Hid.mk hsb
      clear hsb e
      go_wp2_with fail
      go_ret
      exact ⟨ret_str1 HF.out, hbel⟩
end Bw
end Go.Proofs.YthdhhmflfdbkhaaGreatDoor
