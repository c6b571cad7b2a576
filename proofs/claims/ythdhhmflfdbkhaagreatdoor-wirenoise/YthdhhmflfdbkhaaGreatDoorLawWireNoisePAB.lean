/- Joined out of our texts: StuffFixed, FrFixed, StuffPut, FrBits, BitsBytes, ReadMath, TchKit, TakeV, StuffTake, FrRead1, FrRead2. -/
import Derived.Test.YthdhhmflfdbkhaaGreatDoorLawWireNoiseRAB
import Derived.Test.YthdhhmflfdbkhaaGreatDoorLawWireNoisePAA
import Derived.Test.YthdhhmflfdbkhaaGreatDoorFrameMath
import Derived.Test.YthdhhmflfdbkhaaGreatDoorBase8
import Derived.Deep.RegionWith
import Derived.BigQuiet
import Derived.Lib.QuietBelow
/- What stuff.Fixed answers of any text and any byte: a bit ahead of each fourth, and else which error. -/
namespace Go.Proofs.YthdhhmflfdbkhaaGreatDoor
open Go.ChangeShapes Go.WideShapes Go.ChangeAt Go.RowKit
namespace Bw
open Bm

set_option maxHeartbeats 1000000 in
theorem fixed_bad (s : ByteArray) (a : Int) (w : World) (hs : s.size ≤ maxLen) (hc : checkE s.data.toList ≠ 0) :
    Calls Tryz.prog 56 #[.string s, .int .u8 a] w fun e w' => e = .returned (.tuple #[.string ⟨#[]⟩, .int .i64 (checkE s.data.toList)]) ∧ Below w.heap.size w w' := by
  have HS := Hid.mk hs
  have hc' : (checkE s.data.toList == 0) = false := by simpa using hc
  clear hs
  go_enter Tryz.func56, Tryz.ntmps56
  go_wp2_with fail
  refine (check_any s w HS.out).mono ?_
  rintro e w1 ⟨rfl, hb1⟩
  go_wp2_with fail
  go_ret2
  exact ⟨rfl, hb1⟩

set_option maxHeartbeats 1000000 in
theorem fixed_range (s : ByteArray) (a : Int) (w : World) (hc : checkE s.data.toList = 0) (h0 : a ≠ 48) (h1 : a ≠ 49) :
    Calls Tryz.prog 56 #[.string s, .int .u8 a] w fun e w' => e = .returned (.tuple #[.string ⟨#[]⟩, .int .i64 3]) ∧ Below w.heap.size w w' := by
  obtain ⟨h1000, hrow⟩ := small_of_check hc
  have hck := fun W => check_any s W (by unfold maxLen; omega)
  rw [hc] at hck
  have h0' : (a != 48) = true := by simpa using h0
  have h1' : (a != 49) = true := by simpa using h1
  clear hc hrow h0 h1
  go_enter Tryz.func56, Tryz.ntmps56
  go_wp2_with fail
  refine (hck w).mono ?_
  rintro e w1 ⟨rfl, hb1⟩
  clear hck
  go_wp2_with fail
  go_ret2
  exact ⟨rfl, hb1⟩

theorem bit_bools {c : UInt8} (h : bit c = true) : ((c.toNat : Int) != 48 && (c.toNat : Int) != 49) = false := by
  rcases (bit_iff c).1 h with h | h <;> rw [h] <;> rfl

set_option maxHeartbeats 8000000 in
theorem fixed_ok (s : ByteArray) (a : UInt8) (w : World) (hc : checkE s.data.toList = 0) (ha : bit a = true) :
    Calls Tryz.prog 56 #[.string s, .int .u8 a.toNat] w fun e w' => e = .returned (.tuple #[.string ⟨(fixR s.data.toList a s.size).toArray⟩, .int .i64 0]) ∧ Below w.heap.size w w' := by
  obtain ⟨i0, hi, hz0, hz1, hz2⟩ := info_parts info_u8
  obtain ⟨h1000, hrow⟩ := small_of_check hc
  have hck := fun W => check_any s W (by unfold maxLen; omega)
  rw [hc] at hck
  have HR := Hid.mk hrow
  have HA := Hid.mk ha
  have hll : s.data.toList.length = s.size := by simp
  have HLL := Hid.mk hll
  have hab : ((a.toNat : Int) != 48) = false ∨ (((a.toNat : Int) != 48) = true ∧ ((a.toNat : Int) != 49) = false) := by
    rcases (bit_iff a).1 ha with h | h
    · left; rw [h]; rfl
    · right; rw [h]; exact ⟨rfl, rfl⟩
  clear hc hrow ha hll
  go_enter Tryz.func56, Tryz.ntmps56
  go_wp2_with fail
  refine (hck w).mono ?_
  rintro e w1 ⟨rfl, hb1⟩
  clear hck
  have hw1 := hb1.size
  rcases hab with hab | ⟨hab, hab2⟩
  all_goals focus
    go_wp2_with fail
    go_loopw [1, 7, 22] (fun av r i wr => ∃ k : Nat, k ≤ s.size ∧ i = .int .i64 k ∧ av = .int .u8 (fixP s.data.toList a k).toNat ∧ wr.ownsRow w.heap.size 5 1 r (fixR s.data.toList a k).length (cellsOf (fixR s.data.toList a k)) ∧ Below w.heap.size w wr) (fun _ _ i _ => s.size - (intOf i).toNat)
    case atStart => exact ⟨0, Nat.zero_le _, rfl, rfl, World.ownsRow_nil _ _ _ _, hb1⟩
    case round =>
      obtain ⟨k, hk, rfl, rfl, hown, hbel⟩ := hrel
      obtain ⟨o, ho⟩ : ∃ o, o = fixR s.data.toList a k := ⟨_, rfl⟩
      obtain ⟨p, hp⟩ : ∃ p, p = fixP s.data.toList a k := ⟨_, rfl⟩
      rw [← ho] at hown
      rw [← hp]
      have hsz := hbel.size
      have hol : o.length ≤ 2000 := by
        have := fixR_len s.data.toList a k
        rw [← ho] at this
        omega
      have hpb : bit p = true := by
        rw [hp]
        cases k with
        | zero => exact HA.out
        | succ k => rw [show fixP s.data.toList a (k + 1) = s.data.toList.getD k 0 from rfl, ← at_getD s k (by omega)]; exact rowB_at HR.out k (by omega)
      have HO := Hid.mk ho
      have HP := Hid.mk hp
      have HPB := Hid.mk hpb
      clear ho hp hpb
      by_cases hlt : k < s.size
      · have hlt' : (k : Int) < (s.size : Int) := by omega
        obtain ⟨c, hcE⟩ : ∃ c, c = s[k] := ⟨_, rfl⟩
        have hgd : s.data.toList.getD k 0 = c := by rw [hcE, at_getD s k hlt]
        have hP2 : fixP s.data.toList a (k + 1) = c := hgd
        have HP2 := Hid.mk hP2
        have HGD := Hid.mk hgd
        have hcv : s[k] = c := hcE.symm
        clear hcE hgd hP2
        by_cases h4 : k % 4 = 0
        · have h4' : ((k : Int) % 4 == 0) = true := by simp; omega
          have hnext : fixR s.data.toList a (k + 1) = o ++ [otb p] ++ [c] := by rw [fixR, if_pos h4, ← HO.out, ← HP.out, HGD.out]
          have HN := Hid.mk hnext
          clear hnext h4
          go_wp2_with fail
          refine (otherS_any p _ HPB.out).mono ?_
          rintro e w2 ⟨rfl, hw2⟩
          subst hw2
          have hol2 : (o ++ [otb p]).length ≤ 2001 := by rw [List.length_append]; simp; omega
          go_wp2_with (first
            | (at_builtin; refine wpList_append_own _ rfl (.tmp 28) (.tmp 31) 22 rfl w.heap.size 5 i0 (.int .u8 0) 1 1 Tryz.underlying22 hi hz0 hz1 hz2 rfl (by decide) _ _ _ rfl (hown.alloc _) ⟨w2.heap.size, 0, none⟩ 1 1 [Value.int .u8 (otb p).toNat] rfl rfl (by intro q u hq; match q, hq with | 0, hq => (simp at hq; subst hq; simp [Addr.add])) (by intro u hu; simp at hu; subst hu; rfl) (by unfold maxLen; omega) (by omega) (by simp; omega) ?_; intro v1 w3 hown1 hgrow1 _
               have hbel3 : Below w.heap.size w w3 := Below.grown (hbel.alloc hsz _) hgrow1 (by simp; omega) (fun q hq => (hown.lt q hq).1)
               have hown1' : w3.ownsRow w.heap.size 5 1 v1 (o ++ [otb p]).length (cellsOf (o ++ [otb p])) := by
                 rw [cellsOf_append, List.length_append]; exact hown1
               have hsz3 := hbel3.size
               clear hown hown1 hgrow1 hbel hsz)
            | (at_builtin; refine wpList_append_own _ rfl (.tmp 33) (.tmp 37) 22 rfl w.heap.size 5 i0 (.int .u8 0) 1 1 Tryz.underlying22 hi hz0 hz1 hz2 rfl (by decide) _ _ _ rfl (hown1'.alloc _) ⟨w3.heap.size, 0, none⟩ 1 1 [Value.int .u8 c.toNat] rfl rfl (by intro q u hq; match q, hq with | 0, hq => (simp at hq; subst hq; simp [Addr.add])) (by intro u hu; simp at hu; subst hu; rfl) (by unfold maxLen; omega) (by omega) (by simp; omega) ?_; intro v4 w4 hown4 hgrow4 _))
          have hbel4 : Below w.heap.size w w4 := Below.grown (hbel3.alloc hsz3 _) hgrow4 (by simp; omega) (fun q hq => (hown1'.lt q hq).1)
          have hown4' : w4.ownsRow w.heap.size 5 1 v4 (o ++ [otb p] ++ [c]).length (cellsOf (o ++ [otb p] ++ [c])) := by
            rw [cellsOf_append, show (o ++ [otb p] ++ [c]).length = (o ++ [otb p]).length + 1 from List.length_append ..]; exact hown4
          clear hown1' hown4 hgrow4 hbel3 hsz3
          go_wp2_with fail
          go_roundw
          case rel => exact ⟨k + 1, by omega, by go_num, by rw [HP2.out], by rw [HN.out]; exact hown4', hbel4⟩
          case measure => simp [intOf]; omega
        · have h4' : ((k : Int) % 4 == 0) = false := by rw [beq_eq_false_iff_ne]; omega
          have hnext : fixR s.data.toList a (k + 1) = o ++ [c] := by rw [fixR, if_neg h4, ← HO.out, HGD.out]
          have HN := Hid.mk hnext
          clear hnext h4
          go_wp2_with (at_builtin; refine wpList_append_own _ rfl (.tmp 33) (.tmp 37) 22 rfl w.heap.size 5 i0 (.int .u8 0) 1 1 Tryz.underlying22 hi hz0 hz1 hz2 rfl (by decide) _ _ _ rfl (hown.alloc _) ⟨wr.heap.size, 0, none⟩ 1 1 [Value.int .u8 c.toNat] rfl rfl (by intro q u hq; match q, hq with | 0, hq => (simp at hq; subst hq; simp [Addr.add])) (by intro u hu; simp at hu; subst hu; rfl) (by unfold maxLen; omega) (by omega) (by simp; omega) ?_; intro v4 w4 hown4 hgrow4 _)
          have hbel4 : Below w.heap.size w w4 := Below.grown (hbel.alloc hsz _) hgrow4 (by simp; omega) (fun q hq => (hown.lt q hq).1)
          have hown4' : w4.ownsRow w.heap.size 5 1 v4 (o ++ [c]).length (cellsOf (o ++ [c])) := by
            rw [cellsOf_append, List.length_append]; exact hown4
          clear hown hown4 hgrow4 hbel hsz
          go_wp2_with fail
          go_roundw
          case rel => exact ⟨k + 1, by omega, by go_num, by rw [HP2.out], by rw [HN.out]; exact hown4', hbel4⟩
          case measure => simp [intOf]; omega
      · have e : k = s.size := by omega
        subst e
        have hfin := HO.out
        subst hfin
        have hcv := convert_own hown
        clear hown
        go_wp2_with fail
        go_ret2
        exact ⟨rfl, hbel⟩
end Bw
end Go.Proofs.YthdhhmflfdbkhaaGreatDoor

/- What frame.fixedPart answers: the count and the sum of a fast frame, with its fixed bits. -/
namespace Go.Proofs.YthdhhmflfdbkhaaGreatDoor
open Go.ChangeShapes Go.WideShapes Go.ChangeAt Go.RowKit
namespace Bw
open Bm Cm

def fixedL (p : List UInt8) (q n : Nat) : List UInt8 := fixL (grayL (q % 8) ++ sumL (endK n) (p ++ grayL (q % 8))) (lastB p)
theorem fastL_fixed (h p : List UInt8) (n : Nat) : fastL h p n = fixedL p (p.length - h.length) n := rfl
theorem fix_lenE (l : List UInt8) (a : UInt8) : ∀ i, (fixR l a i).length = i + (i + 3) / 4
  | 0 => rfl
  | i + 1 => by
    rw [fixR]
    have h := fix_lenE l a i
    split
    · simp [h]; omega
    · simp [h]; omega
theorem fixedL_len (p : List UInt8) (q n : Nat) : (fixedL p q n).length = if 16 < n then 32 else 27 := by
  unfold fixedL fixL
  rw [fix_lenE, List.length_append, sumL_len, (gray_row _ (Nat.mod_lt _ (by omega))).2]
  unfold endK
  split
  · rw [show kS 2 = 21 from rfl]
  · rw [show kS 1 = 17 from rfl]

set_option maxHeartbeats 4000000 in
theorem fixedPart_any (p : ByteArray) (q n : Nat) (w : World) (hR : RulesAt w) (hp1 : 1 ≤ p.size) (hp : p.size ≤ 990) (hrow : rowB p.data.toList = true) (hn : n ≤ 1000) :
    Calls Tryz.prog 54 #[.string p, .int .i64 q, .int .i64 n] w fun e w' => e = .returned (.string ⟨(fixedL p.data.toList q n).toArray⟩) ∧ Below w.heap.size w w' := by
  have hpl : p.data.toList.length = p.size := by simp
  have hm8 : q % 8 < 8 := Nat.mod_lt _ (by omega)
  have hgr := gray_row (q % 8) hm8
  have hco := fun W => countOf_any q W
  unfold fixedL fixL lastB
  rw [hpl]
  have hcl := mk_list (grayL (q % 8))
  generalize grayL (q % 8) = gl at *
  generalize ByteArray.mk gl.toArray = C at *
  have hCs : C.size = 4 := by rw [ba_size hcl, hgr.2]
  obtain ⟨Y, hY⟩ : ∃ Y, Y = p ++ C := ⟨_, rfl⟩
  have hYl : Y.data.toList = p.data.toList ++ gl := by rw [hY, ba_cat, hcl]
  have hYs : Y.size = p.size + 4 := by rw [ba_size hYl, List.length_append, hgr.2, hpl]
  have hYr : rowB Y.data.toList = true := by rw [hYl, rowB_append, hrow, hgr.1]; rfl
  have hYc : checkE Y.data.toList = 0 := checkE_row hYr (by simp; omega)
  have hso := fun W hW => sum_ok (endK n) Y W hW hYc (endK_le n)
  rw [hYl] at hso
  have hsl := mk_list (sumL (endK n) (p.data.toList ++ gl))
  have hsn := sumL_len (endK n) (p.data.toList ++ gl)
  have hsr := sumL_row (endK n) (p.data.toList ++ gl)
  generalize sumL (endK n) (p.data.toList ++ gl) = sl at *
  generalize ByteArray.mk sl.toArray = S at *
  obtain ⟨Z, hZ⟩ : ∃ Z, Z = C ++ S := ⟨_, rfl⟩
  have hZl : Z.data.toList = gl ++ sl := by rw [hZ, ba_cat, hcl, hsl]
  have hk21 := (kinds_ok (endK n) (endK_le n)).2.1
  have hSs : S.size ≤ 21 := by rw [ba_size hsl, hsn]; exact hk21
  have hZs : Z.size = (gl ++ sl).length := ba_size hZl
  have hZr : rowB Z.data.toList = true := by rw [hZl, rowB_append, hgr.1, hsr]; rfl
  have hZc : checkE Z.data.toList = 0 := checkE_row hZr (by rw [hZl, List.length_append, hgr.2, hsn]; omega)
  have hpz : p.size - 1 < p.size := by clear hYs hCs hZs; omega
  have hpi : p[p.size - 1] = p.data.toList.getD (p.size - 1) 0 := at_getD p _ hpz
  have hlb : bit (p.data.toList.getD (p.size - 1) 0) = true := by rw [← hpi]; exact rowB_at hrow _ hpz
  have hfx := fun W => fixed_ok Z (p.data.toList.getD (p.size - 1) 0) W hZc hlb
  rw [hZl, hZs] at hfx
  have HSO := Hid.mk hso
  have HFX := Hid.mk hfx
  have HYE := Hid.mk hY
  have HZE := Hid.mk hZ
  have HR := Hid.mk hR
  have HCO := Hid.mk hco
  have hCm : C.size ≤ 4 := by omega
  have hpe : (1 : Int) ≤ (p.size : Int) := by omega
  have hek : (endK n : Int) = if (16 : Int) < (n : Int) then 2 else 1 := by unfold endK; split <;> split <;> omega
  have hZn := congrArg List.length hZl
  generalize p.data.toList.getD (p.size - 1) 0 = lb at *
  generalize ByteArray.mk (fixR (gl ++ sl) lb (gl ++ sl).length).toArray = FB at *
  clear hpl hgr hcl hCs hYl hYs hYr hYc hso hsl hsn hsr hZl hZs hZr hZc hfx hY hZ hrow hR hco hlb hZn hm8
  by_cases h16 : (16 : Int) < (n : Int)
  · rw [if_pos h16] at hek
    have hs2 := HSO.out
    simp only [hek, HYE.out] at hs2
    have HS2 := Hid.mk hs2
    have hf2 := HFX.out
    simp only [HZE.out] at hf2
    have HF2 := Hid.mk hf2
    clear hek hs2 hf2
    go_enter Tryz.func54, Tryz.ntmps54
    go_wp2_with fail
    refine (HCO.out _).mono ?_
    rintro e w1 ⟨rfl, hb1⟩
    go_wp2_with fail
    refine (HS2.out _ (HR.out.kept hb1)).mono ?_
    rintro e w2 ⟨rfl, hb2⟩
    have hbel2 := bl2 hb1 hb2
    clear hb1 hb2
    go_wp2_with fail
    refine (HF2.out _).mono ?_
    rintro e w3 ⟨rfl, hb3⟩
    have hbel3 := bl2 hbel2 hb3
    clear hbel2 hb3
    go_wp2_with fail
    go_ret
    exact ⟨rfl, hbel3⟩
  · rw [if_neg h16] at hek
    have hs2 := HSO.out
    simp only [hek, HYE.out] at hs2
    have HS2 := Hid.mk hs2
    have hf2 := HFX.out
    simp only [HZE.out] at hf2
    have HF2 := Hid.mk hf2
    clear hek hs2 hf2
    go_enter Tryz.func54, Tryz.ntmps54
    go_wp2_with fail
    refine (HCO.out _).mono ?_
    rintro e w1 ⟨rfl, hb1⟩
    go_wp2_with fail
    refine (HS2.out _ (HR.out.kept hb1)).mono ?_
    rintro e w2 ⟨rfl, hb2⟩
    have hbel2 := bl2 hb1 hb2
    clear hb1 hb2
    go_wp2_with fail
    refine (HF2.out _).mono ?_
    rintro e w3 ⟨rfl, hb3⟩
    have hbel3 := bl2 hbel2 hb3
    clear hbel2 hb3
    go_wp2_with fail
    go_ret
    exact ⟨rfl, hbel3⟩
end Bw
end Go.Proofs.YthdhhmflfdbkhaaGreatDoor

/- What stuff.Put answers of any text: the row with a bit put in behind each five alike, and else which error. -/
namespace Go.Proofs.YthdhhmflfdbkhaaGreatDoor
open Go.ChangeShapes Go.WideShapes Go.ChangeAt Go.RowKit
namespace Bw
open Bm

set_option maxHeartbeats 1000000 in
theorem put_bad (s : ByteArray) (w : World) (hs : s.size ≤ maxLen) (hc : checkE s.data.toList ≠ 0) :
    Calls Tryz.prog 64 #[.string s] w fun e w' => e = .returned (.tuple #[.string ⟨#[]⟩, .int .i64 (checkE s.data.toList)]) ∧ Below w.heap.size w w' := by
  have HS := Hid.mk hs
  have hc' : (checkE s.data.toList == 0) = false := by simpa using hc
  clear hs
  go_enter Tryz.func64, Tryz.ntmps64
  go_wp2_with fail
  refine (check_any s w HS.out).mono ?_
  rintro e w1 ⟨rfl, hb1⟩
  go_wp2_with fail
  go_ret2
  exact ⟨rfl, hb1⟩

theorem isRun_at {w w' : World} {B g : Nat} {p : UInt8 × Nat} (h : isRun w g p) (hb : Below B w w') (hg : g < B) : isRun w' g p := by
  unfold isRun at *
  rw [hb.block g hg]; exact h

set_option maxHeartbeats 8000000 in
theorem put_ok (s : ByteArray) (w : World) (hc : checkE s.data.toList = 0) :
    Calls Tryz.prog 64 #[.string s] w fun e w' => e = .returned (.tuple #[.string ⟨(putF s.data.toList).toArray⟩, .int .i64 0]) ∧ Below w.heap.size w w' := by
  obtain ⟨i0, hi, hz0, hz1, hz2⟩ := info_parts info_u8
  obtain ⟨h1000, hrow⟩ := small_of_check hc
  have hck := fun W => check_any s W (by unfold maxLen; omega)
  rw [hc] at hck
  have HR := Hid.mk hrow
  clear hc hrow
  go_enter Tryz.func64, Tryz.ntmps64
  go_wp2_with fail
  refine (hck w).mono ?_
  rintro e w1 ⟨rfl, hb1⟩
  clear hck
  have hw1 := hb1.size
  go_wp2_with fail
  go_loopw [5, 15] (fun r i wr => ∃ k : Nat, k ≤ s.size ∧ i = .int .i64 k ∧ wr.ownsRow (w1.heap.size + 1) 5 1 r (putF (s.data.toList.take k)).length (cellsOf (putF (s.data.toList.take k))) ∧ isRun wr w1.heap.size (endR (putF (s.data.toList.take k))) ∧ Below w.heap.size w wr ∧ w1.heap.size + 1 ≤ wr.heap.size) (fun _ i _ => s.size - (intOf i).toNat)
  case atStart => exact ⟨0, Nat.zero_le _, rfl, World.ownsRow_nil _ _ _ _, heap_alloc_new w1 _, hb1.alloc hw1 _, by simp⟩
  case round =>
    obtain ⟨k, hk, rfl, hown, hrun, hbel, hsz⟩ := hrel
    obtain ⟨o, ho⟩ : ∃ o, o = putF (s.data.toList.take k) := ⟨_, rfl⟩
    rw [← ho] at hown hrun
    have HO := Hid.mk ho
    have hol : o.length ≤ 2000 := by
      have := putF_len2 (s.data.toList.take k)
      rw [← ho, List.length_take] at this
      omega
    have h4 : (endR o).2 ≤ 4 := by rw [ho]; exact putF_keep _ (rowB_take HR.out k)
    have H4 := Hid.mk h4
    have HRUN := Hid.mk hrun
    clear ho h4 hrun
    by_cases hlt : k < s.size
    · have hlt' : (k : Int) < (s.size : Int) := by omega
      obtain ⟨c, hcE⟩ : ∃ c, c = s[k] := ⟨_, rfl⟩
      have hbit : bit c = true := by rw [hcE]; exact rowB_at HR.out k hlt
      have hnext : putF (s.data.toList.take (k + 1)) = putS o c := by rw [take_snoc s k hlt, putF_snoc, ← HO.out, hcE]
      have HN := Hid.mk hnext
      have HBIT := Hid.mk hbit
      have hcv : s[k] = c := hcE.symm
      clear hcE hnext hbit
      go_wp2_with (at_builtin; refine wpList_append_own _ rfl (.tmp 18) (.tmp 22) 22 rfl (w1.heap.size + 1) 5 i0 (.int .u8 0) 1 1 Tryz.underlying22 hi hz0 hz1 hz2 rfl (by decide) _ _ _ rfl (hown.alloc _) ⟨wr.heap.size, 0, none⟩ 1 1 [Value.int .u8 c.toNat] rfl rfl (by intro q u hq; match q, hq with | 0, hq => (simp at hq; subst hq; simp [Addr.add])) (by intro u hu; simp at hu; subst hu; rfl) (by unfold maxLen; omega) (by omega) (by simp; omega) ?_; intro v1 w2 hown1 hgrow1 _)
      have hbw2 : Below (w1.heap.size + 1) wr w2 := Below.grown ((Below.refl _ _).alloc hsz _) hgrow1 (by simp; omega) (fun q hq => (hown.lt q hq).1)
      have hrun2 := isRun_at HRUN.out hbw2 (by omega)
      have hbel2 := hbel.trans (hbw2.mono (Nat.le_trans hw1 (Nat.le_succ _)))
      have hsz2 : w1.heap.size + 1 ≤ w2.heap.size := Nat.le_trans hsz hbw2.size
      have hown1' : w2.ownsRow (w1.heap.size + 1) 5 1 v1 (o ++ [c]).length (cellsOf (o ++ [c])) := by
        rw [cellsOf_append, List.length_append]; exact hown1
      have HOWN1 := Hid.mk hown1'
      have hadd := add_any w1.heap.size (endR o) c w2 (by have := H4.out; omega) hrun2
      rw [← endR_snoc] at hadd
      have HADD := Hid.mk hadd
      clear hown hown1 hown1' hgrow1 hbw2 hbel hsz hrun2 HRUN hadd
      go_wp2_with fail
      refine HADD.out.mono ?_
      rintro e w3 ⟨rfl, hrun3, hat3⟩
      have hown3 := hat3.owns HOWN1.out (Nat.lt_succ_self _)
      have hbel3 := hbel2.trans (hat3.below hw1)
      have hsz3 : w1.heap.size + 1 ≤ w3.heap.size := by rw [hat3.size]; exact hsz2
      clear HOWN1 HADD hat3 hbel2 hsz2
      by_cases h5 : (endR (o ++ [c])).2 = 5
      · have h5b : ((endR (o ++ [c])).2 == 5) = true := by simpa using h5
        have hS : putS o c = o ++ [c] ++ [otb c] := by unfold putS; rw [if_pos h5]
        have HS := Hid.mk hS
        have HRUN3 := Hid.mk hrun3
        have H5 := Hid.mk h5
        have hol2 : (o ++ [c]).length ≤ 2001 := by rw [List.length_append]; simp; omega
        clear h5 hS hrun3
        go_wp2_with fail
        refine (otherS_any c w3 HBIT.out).mono ?_
        rintro e w3' ⟨rfl, hw3⟩
        subst hw3
        go_wp2_with (at_builtin; refine wpList_append_own _ rfl (.tmp 28) (.tmp 33) 22 rfl (w1.heap.size + 1) 5 i0 (.int .u8 0) 1 1 Tryz.underlying22 hi hz0 hz1 hz2 rfl (by decide) _ _ _ rfl (hown3.alloc _) ⟨w3'.heap.size, 0, none⟩ 1 1 [Value.int .u8 (otb c).toNat] rfl rfl (by intro q u hq; match q, hq with | 0, hq => (simp at hq; subst hq; simp [Addr.add])) (by intro u hu; simp at hu; subst hu; rfl) (by unfold maxLen; omega) (by omega) (by simp; omega) ?_; intro v4 w4 hown4 hgrow4 _)
        have hbw4 : Below (w1.heap.size + 1) w3' w4 := Below.grown ((Below.refl _ _).alloc hsz3 _) hgrow4 (by simp; omega) (fun q hq => (hown3.lt q hq).1)
        have hrun4 := isRun_at HRUN3.out hbw4 (by omega)
        have hbel4 := hbel3.trans (hbw4.mono (Nat.le_trans hw1 (Nat.le_succ _)))
        have hsz4 : w1.heap.size + 1 ≤ w4.heap.size := Nat.le_trans hsz3 hbw4.size
        have hown4' : w4.ownsRow (w1.heap.size + 1) 5 1 v4 (o ++ [c] ++ [otb c]).length (cellsOf (o ++ [c] ++ [otb c])) := by
          rw [cellsOf_append, show (o ++ [c] ++ [otb c]).length = (o ++ [c]).length + 1 from List.length_append ..]; exact hown4
        have HOWN4 := Hid.mk hown4'
        have HRUN4 := Hid.mk hrun4
        clear hown3 hown4 hown4' hgrow4 hbw4 hbel3 hsz3 hrun4 HRUN3
        go_wp2_with fail
        refine (otherS_any c w4 HBIT.out).mono ?_
        rintro e w4' ⟨rfl, hw4⟩
        subst hw4
        have hadd := add_any w1.heap.size (endR (o ++ [c])) (otb c) w4' (by have := H5.out; omega) HRUN4.out
        rw [← endR_snoc] at hadd
        have HADD := Hid.mk hadd
        clear hadd HRUN4
        go_wp2_with fail
        refine HADD.out.mono ?_
        rintro e w5 ⟨rfl, hrun5, hat5⟩
        have hown5 := hat5.owns HOWN4.out (Nat.lt_succ_self _)
        have hbel5 := hbel4.trans (hat5.below hw1)
        have hsz5 : w1.heap.size + 1 ≤ w5.heap.size := by rw [hat5.size]; exact hsz4
        clear HOWN4 HADD hat5 hbel4 hsz4
        go_wp2_with fail
        go_roundw
        case rel => exact ⟨k + 1, by omega, by go_num, by rw [HN.out, HS.out]; exact hown5, by rw [HN.out, HS.out]; exact hrun5, hbel5, hsz5⟩
        case measure => simp [intOf]; omega
      · have h5b : ((endR (o ++ [c])).2 == 5) = false := by simpa using h5
        have hS : putS o c = o ++ [c] := by unfold putS; rw [if_neg h5]
        have HS := Hid.mk hS
        clear h5 hS
        go_wp2_with fail
        go_roundw
        case rel => exact ⟨k + 1, by omega, by go_num, by rw [HN.out, HS.out]; exact hown3, by rw [HN.out, HS.out]; exact hrun3, hbel3, hsz3⟩
        case measure => simp [intOf]; omega
    · have e : k = s.size := by omega
      subst e
      have hfin : o = putF s.data.toList := by rw [HO.out, List.take_of_length_le (by simp)]
      subst hfin
      have hcv := convert_own hown
      clear hown
      go_wp2_with fail
      go_ret2
      exact ⟨rfl, hbel⟩

/-- what Put answers of any text -/
def putA (l : List UInt8) : Value := if checkE l = 0 then .tuple #[.string ⟨(putF l).toArray⟩, .int .i64 0] else .tuple #[.string ⟨#[]⟩, .int .i64 (checkE l)]
theorem put_any (s : ByteArray) (w : World) (hs : s.size ≤ maxLen) :
    Calls Tryz.prog 64 #[.string s] w fun e w' => e = .returned (putA s.data.toList) ∧ Below w.heap.size w w' := by
  unfold putA
  by_cases hc : checkE s.data.toList = 0
  · rw [if_pos hc]; exact put_ok s w hc
  · rw [if_neg hc]; exact put_bad s w hs hc
end Bw
end Go.Proofs.YthdhhmflfdbkhaaGreatDoor

/- What frame.Bits answers of any frame. -/
namespace Go.Proofs.YthdhhmflfdbkhaaGreatDoor
open Go.ChangeShapes Go.WideShapes Go.ChangeAt Go.RowKit
namespace Bw
open Bm Cm

def bitsA (f : Fr) : Value := if frE f = 0 then .tuple #[.string ⟨(bitsL f).toArray⟩, .int .i64 0] else .tuple #[.string ⟨#[]⟩, .int .i64 (frE f)]
set_option maxHeartbeats 4000000 in
theorem frBits_bad (f : Fr) (a : Option Addr) (len cap : Nat) (w : World) (hS : SizesAt w) (hl : len ≤ maxLen) (hd : f.dt.length = len) (hE : frE f ≠ 0) :
    Calls Tryz.prog 29 #[frameV f.id f.lo f.fa f.re f.sz a len cap] w fun e w' => e = .returned (.tuple #[.string ⟨#[]⟩, .int .i64 (frE f)]) ∧ Below w.heap.size w w' := by
  have hB := below_box w f.id f.lo f.fa f.re f.sz a len cap
  have hck := frCheck_any f.id f.lo f.fa f.re f.sz a len cap _ (hS.kept hB) hl
  have hE' : frEn f.id f.lo f.fa f.re f.sz len = frE f := by unfold frE; rw [hd]
  rw [hE'] at hck
  unfold frameC at hB hck
  unfold frameV at hck ⊢
  have HCK := Hid.mk hck
  have hne : (frE f != 0) = true := by simpa using hE
  clear hS hl hd hck hE' hE
  generalize frE f = ce at *
  go_enter Tryz.func29, Tryz.ntmps29
  go_wp2_with fail
  refine HCK.out.mono ?_
  rintro e w1 ⟨rfl, hb1⟩
  have hbel1 := bl2 hB hb1
  clear hB hb1
  go_wp2_with fail
  go_ret2
  exact ⟨rfl, hbel1⟩
set_option maxHeartbeats 8000000 in
theorem frBits_ok (f : Fr) (a : Option Addr) (len cap : Nat) (w : World) (hS : SizesAt w) (hR : RulesAt w) (hr : IsBytes w a len cap f.dt) (hE : frE f = 0) :
    Calls Tryz.prog 29 #[frameV f.id f.lo f.fa f.re f.sz a len cap] w fun e w' => e = .returned (.tuple #[.string ⟨(bitsL f).toArray⟩, .int .i64 0]) ∧ Below w.heap.size w w' := by
  obtain ⟨e1, e2, e3, e4, e5, e6, e7, e8, e9⟩ := frE_ok hE
  have hdl : f.dt.length = len := hr.1
  have hB := below_box w f.id f.lo f.fa f.re f.sz a len cap
  have hK := FrAt.box w f.id f.lo f.fa f.re f.sz a len cap
  have hck := frCheck_any f.id f.lo f.fa f.re f.sz a len cap _ (hS.kept hB) (by unfold maxLen; omega)
  have hE' : frEn f.id f.lo f.fa f.re f.sz len = 0 := by rw [← hE]; unfold frE; rw [hdl]
  rw [hE'] at hck
  have hhd := fun W hW hBy => head_any f a len cap W hW hE hBy
  have hHr := headL_row f
  have hHn := (headL_le f e7).2
  have hH1 := (headL_le f e7).1
  have hHl := mk_list (headL f)
  generalize ByteArray.mk (headL f).toArray = H at *
  have hHs : H.size = (headL f).length := ba_size hHl
  have hHc : checkE H.data.toList = 0 := checkE_row (by rw [hHl]; exact hHr) (by simp; omega)
  unfold frameC at hB hK hck
  unfold frameV at hhd hck ⊢
  have HCK := Hid.mk hck
  have H1 := Hid.mk hhd
  have HK := Hid.mk hK
  have HS := Hid.mk (hS.kept hB)
  have HR := Hid.mk (hR.kept hB)
  have HB := Hid.mk (isBytes_below hr hB)
  have hHz : H.size ≤ 553 := by omega
  have hlen : len ≤ 64 := by omega
  cases hfa : f.fa
  · have hbl : bitsL f = putF (headL f ++ sumL 0 (headL f)) ++ onesL := by unfold bitsL; rw [hfa]; rfl
    have hso := fun W hW => sum_ok 0 H W hW hHc (by omega)
    rw [hHl] at hso
    have hSl := mk_list (sumL 0 (headL f))
    have hSn := sumL_len 0 (headL f)
    have hSr := sumL_row 0 (headL f)
    generalize sumL 0 (headL f) = sl at *
    generalize ByteArray.mk sl.toArray = S at *
    have hk0 : kS 0 = 15 := rfl
    have hSz : S.size ≤ 15 := by rw [ba_size hSl, hSn, hk0]; exact Nat.le_refl _
    obtain ⟨Y, hY⟩ : ∃ Y, Y = H ++ S := ⟨_, rfl⟩
    have hYl : Y.data.toList = headL f ++ sl := by rw [hY, ba_cat, hHl, hSl]
    have hYs : Y.size = (headL f).length + sl.length := by rw [ba_size hYl, List.length_append]
    have hpu := fun W => put_ok Y W (checkE_row (by rw [hYl, rowB_append, hHr, hSr]; rfl) (by simp; omega))
    rw [hYl] at hpu
    have hPl := mk_list (putF (headL f ++ sl))
    have hPn := putF_len2 (headL f ++ sl)
    rw [List.length_append] at hPn
    simp only [hY] at hpu
    generalize putF (headL f ++ sl) = pl at *
    generalize ByteArray.mk pl.toArray = P at *
    have hPz : P.size ≤ 1200 := by rw [ba_size hPl]; omega
    have H2 := Hid.mk hso
    have H3 := Hid.mk hpu
    have HPL := Hid.mk hPl
    have HBL := Hid.mk hbl
    rw [hfa] at H1 HK hB HCK HS HR HB
    clear hhd hHr hHn hH1 hHl hHs hK hS hR hr hbl hso hSl hSn hSr hk0 hYl hYs hpu hPl hPn e1 e2 e3 e4 e5 e6 e7 e8 e9 hE hdl hY hHc hck hE'
    go_enter Tryz.func29, Tryz.ntmps29
    go_wp2_with fail
    refine HCK.out.mono ?_
    rintro e w0 ⟨rfl, hb0⟩
    have hbel0 := bl2 hB hb0
    obtain ⟨k0, k1, k2, k3, k4, k5⟩ := HK.out.kept hb0
    have HK0 := Hid.mk (HK.out.kept hb0)
    have HS0 := Hid.mk (HS.out.kept hb0)
    have HR0 := Hid.mk (HR.out.kept hb0)
    have HB0 := Hid.mk (isBytes_below HB.out hb0)
    clear hB hb0 HK HS HR HB HCK
    go_wp2_with fail
    refine (H1.out _ HS0.out HB0.out).mono ?_
    rintro e w1 ⟨rfl, hb1⟩
    have hbel1 := bl2 hbel0 hb1
    have j2 := (HK0.out.kept hb1).c2
    have HR1 := Hid.mk (HR0.out.kept hb1)
    clear hb1 hbel0 k0 k1 k2 k3 k4 k5 HK0 HS0 HR0 HB0 H1
    go_wp2_with fail
    refine (H2.out _ HR1.out).mono ?_
    rintro e w2 ⟨rfl, hb2⟩
    have hbel2 := bl2 hbel1 hb2
    clear hb2 hbel1 j2
    go_wp2_with fail
    refine (H3.out _).mono ?_
    rintro e w3 ⟨rfl, hb3⟩
    have hbel3 := bl2 hbel2 hb3
    clear hb3 hbel2
    go_wp2_with fail
    go_ret2
    exact ⟨ret_str2 (by rw [HBL.out, ba_cat, HPL.out]; rfl), hbel3⟩
  · have hbl : bitsL f = putF (headL f) ++ fastL (headL f) (putF (headL f)) f.dt.length ++ onesL := by unfold bitsL; rw [hfa]; rfl
    rw [fastL_fixed, hdl] at hbl
    have hpu := fun W => put_ok H W hHc
    rw [hHl] at hpu
    have hPl := mk_list (putF (headL f))
    have hPr := putF_row (headL f) hHr
    obtain ⟨kk, hk1, hk2⟩ := putF_most (headL f) hHr
    generalize hpp : putF (headL f) = pl at *
    generalize ByteArray.mk pl.toArray = P at *
    have hPs : P.size = pl.length := ba_size hPl
    have hPz : P.size ≤ 900 := by omega
    have hfe := fun W hW => fixedPart_any P (pl.length - (headL f).length) len W hW (by omega) (by omega) (by rw [hPl]; exact hPr) (by omega)
    rw [hPl] at hfe
    have hq : ((pl.length - (headL f).length : Nat) : Int) = (P.size : Int) - (H.size : Int) := by omega
    simp only [hq] at hfe
    have hFl := mk_list (fixedL pl (pl.length - (headL f).length) len)
    have hFn : (fixedL pl (pl.length - (headL f).length) len).length ≤ 32 := by rw [fixedL_len]; split <;> omega
    generalize fixedL pl (pl.length - (headL f).length) len = fl at *
    generalize ByteArray.mk fl.toArray = F at *
    have hFz : F.size ≤ 32 := by rw [ba_size hFl]; exact hFn
    have hHP : (H.size : Int) ≤ (P.size : Int) := by omega
    have H2 := Hid.mk hpu
    have H3 := Hid.mk hfe
    have HPL := Hid.mk hPl
    have HFL := Hid.mk hFl
    have HBL := Hid.mk hbl
    rw [hfa] at H1 HK hB HCK HS HR HB
    clear hhd hHr hHn hH1 hHl hHs hK hS hR hr hbl hpu hPl hPr hk1 hk2 hpp hPs hfe hFl hFn e1 e2 e3 e4 e5 e6 e7 e8 e9 hE hdl hHc hck hE' hq
    go_enter Tryz.func29, Tryz.ntmps29
    go_wp2_with fail
    refine HCK.out.mono ?_
    rintro e w0 ⟨rfl, hb0⟩
    have hbel0 := bl2 hB hb0
    obtain ⟨k0, k1, k2, k3, k4, k5⟩ := HK.out.kept hb0
    have HK0 := Hid.mk (HK.out.kept hb0)
    have HS0 := Hid.mk (HS.out.kept hb0)
    have HR0 := Hid.mk (HR.out.kept hb0)
    have HB0 := Hid.mk (isBytes_below HB.out hb0)
    clear hB hb0 HK HS HR HB HCK
    go_wp2_with fail
    refine (H1.out _ HS0.out HB0.out).mono ?_
    rintro e w1 ⟨rfl, hb1⟩
    have hbel1 := bl2 hbel0 hb1
    have j2 := (HK0.out.kept hb1).c2
    have HK1 := Hid.mk (HK0.out.kept hb1)
    have HR1 := Hid.mk (HR0.out.kept hb1)
    clear hb1 hbel0 k0 k1 k2 k3 k4 k5 HK0 HS0 HR0 HB0 H1
    go_wp2_with fail
    refine (H2.out _).mono ?_
    rintro e w2 ⟨rfl, hb2⟩
    have hbel2 := bl2 hbel1 hb2
    have m5 := (HK1.out.kept hb2).c5
    have HR2 := Hid.mk (HR1.out.kept hb2)
    clear hb2 hbel1 j2 HK1 HR1
    go_wp2_with fail
    refine (H3.out _ HR2.out).mono ?_
    rintro e w3 ⟨rfl, hb3⟩
    have hbel3 := bl2 hbel2 hb3
    clear hb3 hbel2 m5
    go_wp2_with fail
    go_ret2
    exact ⟨ret_str2 (by rw [HBL.out, ba_cat, ba_cat, HPL.out, HFL.out]; rfl), hbel3⟩
theorem frBits_any (f : Fr) (a : Option Addr) (len cap : Nat) (w : World) (hS : SizesAt w) (hR : RulesAt w) (hr : IsBytes w a len cap f.dt) :
    Calls Tryz.prog 29 #[frameV f.id f.lo f.fa f.re f.sz a len cap] w fun e w' => e = .returned (bitsA f) ∧ Below w.heap.size w w' := by
  unfold bitsA
  by_cases hE : frE f = 0
  · rw [if_pos hE]; exact frBits_ok f a len cap w hS hR hr hE
  · rw [if_neg hE]; exact frBits_bad f a len cap w hS (by have := hr.2.1; have := hr.2.2.1; omega) hr.1 hE
end Bw
end Go.Proofs.YthdhhmflfdbkhaaGreatDoor

/- What bits.Bytes answers of any text: the bytes that a row of whole bytes tells, in new memory, and else which error. -/
namespace Go.Proofs.YthdhhmflfdbkhaaGreatDoor
open Go.ChangeShapes Go.WideShapes Go.ChangeAt Go.RowKit
namespace Bw
open Bm

def byteAt (l : List UInt8) (i : Nat) : UInt8 := UInt8.ofNat (val ((l.drop (8 * i)).take 8))
def partL (l : List UInt8) (n k : Nat) : List UInt8 := (List.range n).map fun i => if i < k then byteAt l i else 0
def bytesL (l : List UInt8) : List UInt8 := (List.range (l.length / 8)).map (byteAt l)

theorem partL_length (l : List UInt8) (n k : Nat) : (partL l n k).length = n := by simp [partL]
theorem partL_zero (l : List UInt8) (n : Nat) : cellsOf (partL l n 0) = List.replicate n (Value.int .u8 0) := by
  apply List.ext_getElem?
  intro j
  by_cases hj : j < n <;> simp [partL, cellsOf, hj]
theorem partL_succ (l : List UInt8) (n k : Nat) : (cellsOf (partL l n k)).set k (.int .u8 (byteAt l k).toNat) = cellsOf (partL l n (k + 1)) := by
  apply List.ext_getElem?
  intro j
  rw [List.getElem?_set]
  by_cases hj : j < n
  · by_cases hjk : k = j
    · subst hjk; simp [partL, cellsOf, hj]
    · have h1 : (j < k + 1) = (j < k) := by simp; omega
      simp [partL, cellsOf, hj, hjk, h1]
  · simp [partL, cellsOf, hj]; omega
theorem partL_full (l : List UInt8) (n : Nat) (h : l.length / 8 = n) : partL l n n = bytesL l := by
  unfold partL bytesL
  rw [h]
  apply List.map_congr_left
  intro i hi
  rw [if_pos (by simpa using hi)]

set_option maxHeartbeats 1000000 in
theorem bytes_bad (s : ByteArray) (w : World) (hs : s.size ≤ maxLen) (hc : checkE s.data.toList ≠ 0) :
    Calls Tryz.prog 53 #[.string s] w fun e w' => e = .returned (.tuple #[.slice none 0 0, .int .i64 (checkE s.data.toList)]) ∧ Below w.heap.size w w' := by
  have HS : Hid (s.size ≤ maxLen) := hs
  have hc' : (checkE s.data.toList == 0) = false := by simpa using hc
  clear hs
  go_enter Tryz.func53, Tryz.ntmps53
  go_wp2_with fail
  refine (check_any s w HS.out).mono ?_
  rintro e w1 ⟨rfl, hb1⟩
  go_wp2_with fail
  go_ret2
  exact ⟨rfl, hb1⟩

set_option maxHeartbeats 1000000 in
theorem bytes_form (s : ByteArray) (w : World) (hc : checkE s.data.toList = 0) (h8 : s.size % 8 ≠ 0) :
    Calls Tryz.prog 53 #[.string s] w fun e w' => e = .returned (.tuple #[.slice none 0 0, .int .i64 4]) ∧ Below w.heap.size w w' := by
  have h1000 := (small_of_check hc).1
  have hck := fun W => check_any s W (by unfold maxLen; omega)
  rw [hc] at hck
  have h8' : (((s.size : Int) % 8) == 0) = false := by simp; omega
  clear hc
  go_enter Tryz.func53, Tryz.ntmps53
  go_wp2_with fail
  refine (hck w).mono ?_
  rintro e w1 ⟨rfl, hb1⟩
  clear hck
  go_wp2_with fail
  go_ret2
  exact ⟨rfl, hb1⟩

set_option maxHeartbeats 2000000 in
theorem bytes_ok (s : ByteArray) (w : World) (hc : checkE s.data.toList = 0) (n : Nat) (h8 : s.size = 8 * n) :
    Calls Tryz.prog 53 #[.string s] w fun e w' => ∃ v, e = .returned (.tuple #[v, .int .i64 0]) ∧ w'.ownsRow w.heap.size 5 1 v n (cellsOf (bytesL s.data.toList)) ∧ Below w.heap.size w w' := by
  have h1000 := (small_of_check hc).1
  have HR : Hid (rowB s.data.toList = true) := (small_of_check hc).2
  have hck := fun W => check_any s W (by unfold maxLen; omega)
  rw [hc] at hck
  have h8' : (s.size : Int) % 8 = 0 := by omega
  have hdiv : (s.size : Int) / 8 = (n : Int) := by omega
  have H8 : Hid (s.size = 8 * n) := h8
  have hn : n ≤ 125 := by omega
  clear hc h8
  obtain ⟨i0, hi, hz0, hz1, hz2⟩ := info_parts info_u8
  go_enter Tryz.func53, Tryz.ntmps53
  go_wp2_with fail
  refine (hck w).mono ?_
  rintro e w1 ⟨rfl, hb1⟩
  clear hck
  go_wp2_with (at_make; refine wpList_make_full _ rfl (.tmp 18) (.tmp 18) 22 rfl w.heap.size 5 i0 (.int .u8 0) 1 Tryz.underlying22 hi hz0 hz1 .i64 .i64 _ _ n rfl rfl (by omega) (by omega) (by rw [hz2]; omega) (by unfold maxLen; omega) hb1.size ?_; intro w2 hown hgrow)
  have hown0 : w2.ownsRow w.heap.size 5 1 (.slice (some ⟨w1.heap.size, 0, none⟩) n n) n (cellsOf (partL s.data.toList n 0)) := by
    rw [partL_zero, ← toList_madeCells_one]
    rw [Nat.mul_one] at hown
    exact hown
  have hb2 : Below w.heap.size w w2 := Below.grown hb1 hgrow hb1.size (fun q hq => by cases hq)
  clear hown hgrow h8' hdiv
  go_wp2_with fail
  go_loopw [22] (fun i wr => ∃ k : Nat, k ≤ n ∧ i = .int .i64 k ∧ wr.ownsRow w.heap.size 5 1 (.slice (some ⟨w1.heap.size, 0, none⟩) n n) n (cellsOf (partL s.data.toList n k)) ∧ Below w.heap.size w wr) (fun i _ => n - (intOf i).toNat)
  case atStart => exact ⟨0, Nat.zero_le _, rfl, hown0, hb2⟩
  case round =>
    clear hown0 hb2
    obtain ⟨k, hk, rfl, hown, hbel⟩ := hrel
    by_cases hlt : k < n
    · have hlt' : (k : Int) < (n : Int) := by omega
      have hsz : (k : Int) * 8 + 8 ≤ (s.size : Int) := by have := H8.out; omega
      have hsl : ∀ W, (Instr.slice 9 (.string s) (some (.int .i64 ((k : Int) * 8))) (some (.int .i64 (((k : Int) + 1) * 8))) none).run Tryz.prog W = .ok (.string (s.extract (8 * k) (8 * k + 8))) W := by
        intro W
        rw [run_slice_string W _ s _ _ _ _ Tryz.underlying9 (by omega) (by omega) (by omega)]
        have e1 : ((k : Int) * 8).toNat = 8 * k := by omega
        have e2 : (((k : Int) + 1) * 8).toNat = 8 * k + 8 := by omega
        rw [e1, e2]
      obtain ⟨t, htE⟩ : ∃ t, t = s.extract (8 * k) (8 * k + 8) := ⟨_, rfl⟩
      rw [← htE] at hsl
      have hts := congrArg ByteArray.size htE
      rw [ByteArray.size_extract] at hts
      have hts2 : t.size = 8 := by have := H8.out; omega
      have htl : t.data.toList = (s.data.toList.drop (8 * k)).take 8 := by rw [htE]; exact extract_list s (8 * k) 8
      have hcellv := fun W => value_any t W (by omega) (by rw [htl]; exact rowB_take (rowB_drop HR.out _) _)
      have hv255 : val t.data.toList < 256 := by
        have h1 := val_lt t.data.toList (by rw [htl]; exact rowB_take (rowB_drop HR.out _) _)
        have h2 : t.data.toList.length = 8 := by simpa using hts2
        rw [h2] at h1; exact h1
      have HB : Hid (Value.int .u8 (val t.data.toList) = Value.int .u8 (byteAt s.data.toList k).toNat) := by
        unfold byteAt
        rw [← htl]
        have : (UInt8.ofNat (val t.data.toList)).toNat = val t.data.toList := by simp; omega
        show _ = _
        rw [this]
      clear hi hz0 hz1 hz2 htE hts htl hts2
      generalize val t.data.toList = vv at *
      go_wp2_with fail
      refine (hcellv wr).mono ?_
      rintro e w3 ⟨rfl, hb3⟩
      have hown3 := ownsRow_below hown hb3
      have hc3 := hown3.cellAt k (by omega)
      have hf3 := hown3.frozenAt k
      rw [show (cellsOf (partL s.data.toList n k))[k]? = some ((cellsOf (partL s.data.toList n k))[k]'(by rw [cellsOf_length, partL_length]; exact hlt)) from List.getElem?_eq_getElem _] at hc3
      have hst := hown3.stored k (.int .u8 vv)
      rw [HB.out, partL_succ] at hst
      rw [← HB.out] at hst
      have hown4 := hst.1
      have hb4 := (hbel.trans (hb3.mono hbel.size)).grown hst.2 (Nat.le_trans hbel.size hb3.size) (fun q hq => by cases hq; exact hb1.size)
      have HO4 := Hid.mk hown4
      clear hown hown3 hst hown4 hcellv
      go_wp2_with fail
      go_roundw
      case rel => exact ⟨k + 1, by omega, by go_num, HO4.out, hb4⟩
      case measure => simp [intOf]; omega
    · have e : k = n := by omega
      subst e
      rw [partL_full _ _ (by have := H8.out; simp; omega)] at hown
      go_wp2_with fail
      go_ret2
      exact ⟨_, rfl, hown, hbel⟩
end Bw
end Go.Proofs.YthdhhmflfdbkhaaGreatDoor

/- Reading a frame, as plain functions on lists: what is under way, part by part; of no program. -/
namespace Go.Proofs.YthdhhmflfdbkhaaGreatDoor
namespace Bw
open Bm Cm

/-- what is under way: the fault that was told, how many bits are read, what was taken -/
structure RS where
  fl : Int
  u : Nat
  o : List UInt8
def failP (S : RS) (e : Int) : RS := if S.fl = 0 then ⟨e, S.u, S.o⟩ else S
def takeP (b : List UInt8) (S : RS) (n : Nat) : List UInt8 × RS :=
  if S.fl = 0 then
    (if (takeG b (S.o.length + n) 0 []).2.2 = 0 then ((takeG b (S.o.length + n) 0 []).1.drop S.o.length, ⟨0, (takeG b (S.o.length + n) 0 []).2.1, (takeG b (S.o.length + n) 0 []).1⟩)
     else ([], ⟨(takeG b (S.o.length + n) 0 []).2.2, S.u, S.o⟩))
  else ([], S)
def numP (b : List UInt8) (S : RS) (n : Nat) : Nat × RS := (val (takeP b S n).1, (takeP b S n).2)
def wstep (b : List UInt8) (S : RS) (c : UInt8) : RS := if (takeP b S 1).1 = [c] then (takeP b S 1).2 else failP (takeP b S 1).2 4
def wantP (b : List UInt8) (S : RS) (l : List UInt8) : RS := l.foldl (wstep b) S
theorem wantP_snoc (b : List UInt8) (S : RS) (l : List UInt8) (c : UInt8) : wantP b S (l ++ [c]) = wstep b (wantP b S l) c := by simp [wantP]
/-- so many bits as they stand -/
def nextP (b : List UInt8) (S : RS) (n : Nat) : List UInt8 × RS :=
  if S.fl = 0 then (if b.length < S.u + n then ([], ⟨7, S.u, S.o⟩) else ((b.drop S.u).take n, ⟨0, S.u + n, S.o⟩)) else ([], S)

def nm1 (b : List UInt8) (S : RS) : RS := wantP b S [48]
def nmN (b : List UInt8) (S : RS) : Nat × RS := numP b (nm1 b S) 11
def nmF (b : List UInt8) (S : RS) : List UInt8 × RS := takeP b (nmN b S).2 1
def nmL (b : List UInt8) (S : RS) : List UInt8 × RS := takeP b (nmF b S).2 1
def nm5 (b : List UInt8) (S : RS) : RS := if (nmF b S).1 = [49] then (nmL b S).2 else failP (nmL b S).2 4
def nmM (b : List UInt8) (S : RS) : Nat × RS := numP b (nm5 b S) 18
def nmR (b : List UInt8) (S : RS) : List UInt8 × RS := takeP b (nmM b S).2 1
/-- what was read of a name -/
structure NmR where
  S : RS
  id : Nat
  lo : Bool
  re : Bool
def nameP (b : List UInt8) (S : RS) : NmR :=
  if (nmL b S).1 = [49] then ⟨(nmR b S).2, (nmN b S).1 * 262144 + (nmM b S).1, true, decide ((nmR b S).1 = [49])⟩
  else ⟨(nmL b S).2, (nmN b S).1, false, decide ((nmF b S).1 = [49])⟩
def formP (b : List UInt8) (S : RS) (lo re : Bool) : RS × Bool :=
  if (takeP b S 1).1 = [49] then (if re then failP (takeP b S 1).2 4 else wantP b (takeP b S 1).2 [48, 49, 48], true)
  else (if lo then wantP b (takeP b S 1).2 [48] else (takeP b S 1).2, false)
def topD (fa : Bool) : Nat := if fa then 64 else 8
def dtN (b : List UInt8) (S : RS) : Nat := sizesL.getD (numP b S 4).1 0
def dt2 (b : List UInt8) (S : RS) (fa : Bool) : RS := if topD fa < dtN b S then failP (numP b S 4).2 4 else (numP b S 4).2
/-- what was read of the data -/
structure DtR where
  S : RS
  sz : Nat
  dt : List UInt8
def dataP (b : List UInt8) (S : RS) (fa re : Bool) : DtR :=
  if re then ⟨dt2 b S fa, dtN b S, []⟩ else ⟨(takeP b (dt2 b S fa) (8 * dtN b S)).2, 0, bytesL (takeP b (dt2 b S fa) (8 * dtN b S)).1⟩
def sumP (b : List UInt8) (S : RS) : RS := if (takeP b S 15).1 = sumL 0 S.o then (takeP b S 15).2 else failP (takeP b S 15).2 6
/-- without each fifth, the first being one -/
def unfixL : List UInt8 → Nat → List UInt8
  | [], _ => []
  | c :: l, i => if i % 5 = 0 then unfixL l (i + 1) else c :: unfixL l (i + 1)
def fixedP (b : List UInt8) (S : RS) (n : Nat) : RS :=
  if S.fl = 0 then
    (if (nextP b S (fastL S.o (b.take S.u) n).length).1 = fixL (unfixL (nextP b S (fastL S.o (b.take S.u) n).length).1 0) (lastB (b.take S.u)) then
      (if (nextP b S (fastL S.o (b.take S.u) n).length).1 = fastL S.o (b.take S.u) n then (nextP b S (fastL S.o (b.take S.u) n).length).2 else failP (nextP b S (fastL S.o (b.take S.u) n).length).2 6)
     else failP (nextP b S (fastL S.o (b.take S.u) n).length).2 5)
  else S
def heardL : List UInt8 := [49, 48, 49, 49, 49, 49, 49, 49, 49, 49]
def endP (b : List UInt8) (S : RS) : RS := if (nextP b S 10).1 = onesL ∨ (nextP b S 10).1 = heardL then (nextP b S 10).2 else failP (nextP b S 10).2 4
def rdA (b : List UInt8) : NmR := nameP b ⟨0, 0, []⟩
def rdB (b : List UInt8) : RS × Bool := formP b (rdA b).S (rdA b).lo (rdA b).re
def rdD (b : List UInt8) : DtR := dataP b (rdB b).1 (rdB b).2 (rdA b).re
def rdS (b : List UInt8) : RS := if (rdB b).2 then fixedP b (rdD b).S (rdD b).dt.length else sumP b (rdD b).S
def rdE (b : List UInt8) : RS := endP b (rdS b)
def rdF (b : List UInt8) : Fr := ⟨(rdA b).id, (rdA b).lo, (rdB b).2, (rdA b).re, (rdD b).sz, (rdD b).dt⟩

theorem takeG_row (b : List UInt8) (hb : rowB b = true) : ∀ m u o, rowB o = true → rowB (takeG b m u o).1 = true
  | 0, _, _, ho => ho
  | m + 1, u, o, ho => by
    rw [takeG]
    split
    · rfl
    · rename_i h
      have hbit : bit (b.getD u 0) = true := by
        have hu : u < b.length := by omega
        rw [List.getD, List.getElem?_eq_getElem hu, Option.getD_some]
        exact rowB_all.1 hb _ (List.getElem_mem hu)
      have ho' : rowB (o ++ [b.getD u 0]) = true := by rw [rowB_snoc, ho, hbit]; rfl
      split
      · split
        · rfl
        · split
          · rfl
          · exact takeG_row b hb m _ _ ho'
      · exact takeG_row b hb m _ _ ho'
theorem takeG_len (b : List UInt8) (m : Nat) : (takeG b m 0 []).2.2 = 0 → (takeG b m 0 []).1.length = m := by
  intro h
  have := (takeG_ok b m 0 [] (takeG b m 0 []).1 (takeG b m 0 []).2.1 (by rw [← h])).1
  simpa using this

theorem takeG_in (b : List UInt8) : ∀ m u o, u ≤ b.length → o.length ≤ u → (takeG b m u o).2.2 = 0 → (takeG b m u o).2.1 ≤ b.length ∧ (takeG b m u o).1.length ≤ (takeG b m u o).2.1
  | 0, _, _, h1, h2, _ => ⟨h1, h2⟩
  | m + 1, u, o, h1, h2, h => by
    rw [takeG] at h ⊢
    split at h
    · cases h
    · rename_i hu
      rw [if_neg hu]
      split at h
      · rename_i h5
        rw [if_pos h5]
        split at h
        · cases h
        · rename_i hu2
          rw [if_neg hu2]
          split at h
          · cases h
          · rename_i h6
            rw [if_neg h6]
            exact takeG_in b m _ _ (by omega) (by simp; omega) h
      · rename_i h5
        rw [if_neg h5]
        exact takeG_in b m _ _ (by omega) (by simp; omega) h
/-- what is under way is right: a row, and no more than is there -/
structure Inv (b : List UInt8) (S : RS) (n : Nat) : Prop where
  row : rowB S.o = true
  u : S.u ≤ b.length
  ou : S.o.length ≤ S.u
  n : S.o.length ≤ n
theorem Inv.start (b : List UInt8) : Inv b ⟨0, 0, []⟩ 0 := ⟨rfl, Nat.zero_le _, Nat.le_refl _, Nat.le_refl _⟩
theorem Inv.up {b : List UInt8} {S : RS} {n m : Nat} (h : Inv b S n) (hm : n ≤ m) : Inv b S m := ⟨h.row, h.u, h.ou, Nat.le_trans h.n hm⟩
theorem Inv.fail {b : List UInt8} {S : RS} {n : Nat} (h : Inv b S n) (e : Int) : Inv b (failP S e) n := by
  unfold failP
  split
  · exact ⟨h.row, h.u, h.ou, h.n⟩
  · exact h
theorem Inv.take {b : List UInt8} {S : RS} {n : Nat} (hb : rowB b = true) (h : Inv b S n) (k : Nat) : Inv b (takeP b S k).2 (n + k) := by
  unfold takeP
  split
  · split
    · rename_i h0
      have h1 := takeG_in b (S.o.length + k) 0 [] (Nat.zero_le _) (Nat.le_refl _) h0
      refine ⟨takeG_row b hb _ _ _ rfl, h1.1, h1.2, ?_⟩
      show (takeG b (S.o.length + k) 0 []).1.length ≤ _
      rw [takeG_len b _ h0]
      have := h.n
      omega
    · exact ⟨h.row, h.u, h.ou, by have := h.n; show S.o.length ≤ _; omega⟩
  · exact h.up (by omega)
theorem Inv.num {b : List UInt8} {S : RS} {n : Nat} (hb : rowB b = true) (h : Inv b S n) (k : Nat) : Inv b (numP b S k).2 (n + k) := h.take hb k
theorem Inv.wstep {b : List UInt8} {S : RS} {n : Nat} (hb : rowB b = true) (h : Inv b S n) (c : UInt8) : Inv b (wstep b S c) (n + 1) := by
  unfold Bw.wstep
  split
  · exact h.take hb 1
  · exact (h.take hb 1).fail 4
theorem Inv.want {b : List UInt8} (hb : rowB b = true) : ∀ (l : List UInt8) {S : RS} {n : Nat}, Inv b S n → Inv b (wantP b S l) (n + l.length)
  | [], _, _, h => h
  | c :: l, _, n, h => by
    have := Inv.want hb l (h.wstep hb c)
    rw [List.length_cons, show n + (l.length + 1) = n + 1 + l.length by omega]
    exact this
theorem Inv.next {b : List UInt8} {S : RS} {n : Nat} (h : Inv b S n) (k : Nat) : Inv b (nextP b S k).2 n := by
  unfold nextP
  split
  · split
    · exact ⟨h.row, h.u, h.ou, h.n⟩
    · exact ⟨h.row, by show S.u + k ≤ _; omega, by have := h.ou; show S.o.length ≤ S.u + k; omega, h.n⟩
  · exact h
/-- what was taken: so many bits, or none -/
theorem takeP_len (b : List UInt8) (S : RS) (k : Nat) : (takeP b S k).1.length = k ∨ (takeP b S k).1 = [] := by
  unfold takeP
  split
  · split
    · rename_i h0
      left
      rw [List.length_drop, takeG_len b _ h0]; omega
    · exact .inr rfl
  · exact .inr rfl
theorem takeP_row (b : List UInt8) (hb : rowB b = true) (S : RS) (k : Nat) : rowB (takeP b S k).1 = true := by
  unfold takeP
  split
  · split
    · exact rowB_drop (takeG_row b hb _ _ _ rfl) _
    · rfl
  · rfl
theorem rowB_dropP {l : List UInt8} (h : rowB l = true) (k : Nat) : rowB (l.drop k) = true := rowB_drop h k
theorem nextP_row (b : List UInt8) (hb : rowB b = true) (S : RS) (k : Nat) : rowB (nextP b S k).1 = true := by
  unfold nextP
  split
  · split
    · rfl
    · exact rowB_take (rowB_drop hb _) _
  · rfl
theorem nextP_len (b : List UInt8) (S : RS) (k : Nat) : (nextP b S k).1.length ≤ k := by
  unfold nextP
  split
  · split
    · exact Nat.zero_le _
    · simp; omega
  · exact Nat.zero_le _
theorem numP_lt (b : List UInt8) (hb : rowB b = true) (S : RS) (k : Nat) : (numP b S k).1 < 2 ^ k := by
  have h := val_lt _ (takeP_row b hb S k)
  rcases takeP_len b S k with h1 | h1
  · rw [h1] at h; exact h
  · show val (takeP b S k).1 < _
    rw [h1]; exact Nat.two_pow_pos k

/-- where one is when p was taken of what Put made -/
def stP (p : List UInt8) : RS := ⟨0, (putF p).length, p⟩
theorem takeP_put (T r p c t : List UInt8) (n : Nat) (hT : T = p ++ (c ++ t)) (hrow : rowB T = true) (hn : c.length = n) : takeP (putF T ++ r) (stP p) n = (c, stP (p ++ c)) := by
  subst hn
  have hT' : T = (p ++ c) ++ t := by rw [hT, List.append_assoc]
  obtain ⟨t', ht'⟩ := putF_append (p ++ c) t
  have hrow' : rowB ([] ++ (p ++ c)) = true := by
    rw [hT', rowB_append] at hrow
    simp only [Bool.and_eq_true] at hrow
    exact hrow.1
  have h := take_put (t' ++ r) (p ++ c) [] hrow'
  rw [List.nil_append, putF_nil, List.length_nil, List.length_append] at h
  have hb : putF T ++ r = putF (p ++ c) ++ (t' ++ r) := by rw [hT', ht', List.append_assoc]
  unfold takeP stP
  simp only
  rw [if_pos trivial, hb, h]
  simp
theorem numP_put (T r p c t : List UInt8) (n : Nat) (hT : T = p ++ (c ++ t)) (hrow : rowB T = true) (hn : c.length = n) : numP (putF T ++ r) (stP p) n = (val c, stP (p ++ c)) := by
  unfold numP
  rw [takeP_put T r p c t n hT hrow hn]
theorem wstep_put (T r p t : List UInt8) (c : UInt8) (hT : T = p ++ ([c] ++ t)) (hrow : rowB T = true) : wstep (putF T ++ r) (stP p) c = stP (p ++ [c]) := by
  unfold wstep
  rw [takeP_put T r p [c] t 1 hT hrow rfl, if_pos rfl]

theorem name_short (T r t : List UInt8) (id : Nat) (re : Bool) (hid : id < 2 ^ 11) (hT : T = [48] ++ (bitsHead id 11 11 ++ ([bitB re] ++ ([48] ++ t)))) (hrow : rowB T = true) :
    nameP (putF T ++ r) ⟨0, 0, []⟩ = ⟨stP ([48] ++ bitsHead id 11 11 ++ [bitB re] ++ [48]), id, false, re⟩ := by
  have h0 : (⟨0, 0, []⟩ : RS) = stP [] := rfl
  rw [h0]
  have h1 : nm1 (putF T ++ r) (stP []) = stP [48] := by
    unfold nm1 wantP
    exact wstep_put T r [] _ 48 hT hrow
  have h2 : nmN (putF T ++ r) (stP []) = (id, stP ([48] ++ bitsHead id 11 11)) := by
    unfold nmN
    rw [h1, numP_put T r [48] (bitsHead id 11 11) _ 11 hT hrow (bitsHead_length _ _ _), val_row _ _ hid]
  have h3 : nmF (putF T ++ r) (stP []) = ([bitB re], stP ([48] ++ bitsHead id 11 11 ++ [bitB re])) := by
    unfold nmF
    rw [h2]
    exact takeP_put T r ([48] ++ bitsHead id 11 11) [bitB re] ([48] ++ t) 1 (by rw [hT]; simp) hrow rfl
  have h4 : nmL (putF T ++ r) (stP []) = ([48], stP ([48] ++ bitsHead id 11 11 ++ [bitB re] ++ [48])) := by
    unfold nmL
    rw [h3]
    exact takeP_put T r ([48] ++ bitsHead id 11 11 ++ [bitB re]) [48] t 1 (by rw [hT]; simp) hrow rfl
  unfold nameP
  rw [h4, h3, h2]
  simp only
  rw [if_neg (by decide)]
  cases re <;> rfl
theorem name_long (T r t x y : List UInt8) (id : Nat) (re : Bool) (hx : x.length = 11) (hy : y.length = 18) (hxy : val x * 262144 + val y = id) (hT : T = [48] ++ (x ++ ([49] ++ ([49] ++ (y ++ ([bitB re] ++ t)))))) (hrow : rowB T = true) :
    nameP (putF T ++ r) ⟨0, 0, []⟩ = ⟨stP ([48] ++ x ++ [49] ++ [49] ++ y ++ [bitB re]), id, true, re⟩ := by
  have h0 : (⟨0, 0, []⟩ : RS) = stP [] := rfl
  rw [h0]
  have h1 : nm1 (putF T ++ r) (stP []) = stP [48] := by
    unfold nm1 wantP
    exact wstep_put T r [] _ 48 hT hrow
  have h2 : nmN (putF T ++ r) (stP []) = (val x, stP ([48] ++ x)) := by
    unfold nmN
    rw [h1, numP_put T r [48] x _ 11 hT hrow hx]
  have h3 : nmF (putF T ++ r) (stP []) = ([49], stP ([48] ++ x ++ [49])) := by
    unfold nmF
    rw [h2]
    exact takeP_put T r ([48] ++ x) [49] ([49] ++ (y ++ ([bitB re] ++ t))) 1 (by rw [hT]; simp) hrow rfl
  have h4 : nmL (putF T ++ r) (stP []) = ([49], stP ([48] ++ x ++ [49] ++ [49])) := by
    unfold nmL
    rw [h3]
    exact takeP_put T r ([48] ++ x ++ [49]) [49] (y ++ ([bitB re] ++ t)) 1 (by rw [hT]; simp) hrow rfl
  have h5 : nm5 (putF T ++ r) (stP []) = stP ([48] ++ x ++ [49] ++ [49]) := by
    unfold nm5
    rw [h3, h4, if_pos rfl]
  have h6 : nmM (putF T ++ r) (stP []) = (val y, stP ([48] ++ x ++ [49] ++ [49] ++ y)) := by
    unfold nmM
    rw [h5]
    exact numP_put T r ([48] ++ x ++ [49] ++ [49]) y ([bitB re] ++ t) 18 (by rw [hT]; simp) hrow hy
  have h7 : nmR (putF T ++ r) (stP []) = ([bitB re], stP ([48] ++ x ++ [49] ++ [49] ++ y ++ [bitB re])) := by
    unfold nmR
    rw [h6]
    exact takeP_put T r ([48] ++ x ++ [49] ++ [49] ++ y) [bitB re] t 1 (by rw [hT]; simp) hrow rfl
  unfold nameP
  rw [h4, h7, h2, h6]
  simp only
  rw [if_pos trivial, hxy]
  cases re <;> rfl
end Bw
end Go.Proofs.YthdhhmflfdbkhaaGreatDoor

/- Variables of one cell, and worlds of which only some blocks have turned; none walks a function. -/
namespace Go.Proofs.YthdhhmflfdbkhaaGreatDoor
open Go.ChangeShapes Go.WideShapes Go.ChangeAt Go.RowKit
namespace Bw
/-- a variable of one cell -/
def BoxAt (w : World) (g : Nat) (t : TypeId) (v : Value) : Prop := w.heap[g]? = some (.cells #[v] t (0, 0))
theorem BoxAt.lt {w : World} {g : Nat} {t : TypeId} {v : Value} (h : BoxAt w g t v) : g < w.heap.size := by
  rcases Nat.lt_or_ge g w.heap.size with h' | h'
  · exact h'
  · unfold BoxAt at h; rw [Array.getElem?_eq_none h'] at h; cases h
theorem BoxAt.cell {w : World} {g : Nat} {t : TypeId} {v : Value} (h : BoxAt w g t v) : w.cell? ⟨g, 0, none⟩ = some v := by
  rw [cell_of_row w g 0 _ _ _ h]; rfl
theorem BoxAt.frozen {w : World} {g : Nat} {t : TypeId} {v : Value} (h : BoxAt w g t v) : w.frozen? ⟨g, 0, none⟩ = false := frozen_of_row w g 0 _ _ h
theorem BoxAt.kept {w w' : World} {g : Nat} {t : TypeId} {v : Value} (h : BoxAt w g t v) (hb : Below w.heap.size w w') : BoxAt w' g t v := by
  unfold BoxAt; rw [hb.block g h.lt]; exact h
theorem BoxAt.set {w : World} {g : Nat} {t : TypeId} {v : Value} (h : BoxAt w g t v) (u : Value) : BoxAt (w.setCell ⟨g, 0, none⟩ u) g t u := heap_setCell_same w g 0 _ t u h
theorem BoxAt.other {w : World} {g k : Nat} {t : TypeId} {v : Value} (h : BoxAt w g t v) (u : Value) (hk : g ≠ k) : BoxAt (w.setCell ⟨k, 0, none⟩ u) g t v := by
  unfold BoxAt; rw [Below.heap_setCell _ _ _ _ hk]; exact h
/-- of what was there only these blocks have turned -/
structure Tch (gs : List Nat) (w w' : World) : Prop where
  os : w'.os = w.os
  tape : w'.tape = w.tape
  output : w'.output = w.output
  size : w.heap.size ≤ w'.heap.size
  block : ∀ k, k < w.heap.size → k ∉ gs → w'.heap[k]? = w.heap[k]?
theorem Tch.refl (gs : List Nat) (w : World) : Tch gs w w := ⟨rfl, rfl, rfl, Nat.le_refl _, fun _ _ _ => rfl⟩
theorem Tch.of {gs : List Nat} {w w' : World} (h : Below w.heap.size w w') : Tch gs w w' := ⟨h.os, h.tape, h.output, h.size, fun k hk _ => h.block k hk⟩
theorem Tch.trans {gs : List Nat} {w a b : World} (h1 : Tch gs w a) (h2 : Tch gs a b) : Tch gs w b :=
  ⟨h2.os.trans h1.os, h2.tape.trans h1.tape, h2.output.trans h1.output, Nat.le_trans h1.size h2.size, fun k hk hg => (h2.block k (Nat.lt_of_lt_of_le hk h1.size) hg).trans (h1.block k hk hg)⟩
theorem Tch.set {gs : List Nat} {w a : World} (h : Tch gs w a) {g : Nat} (hg : g ∈ gs) (u : Value) : Tch gs w (a.setCell ⟨g, 0, none⟩ u) :=
  h.trans ⟨rfl, rfl, rfl, by simp [World.setCell], fun k _ hk => Below.heap_setCell _ _ _ _ (fun e => hk (e ▸ hg))⟩
theorem Tch.setK {gs : List Nat} {w a : World} (h : Tch gs w a) {g : Nat} (hg : g ∈ gs) (k : Nat) (u : Value) : Tch gs w (a.setCell ⟨g, k, none⟩ u) :=
  h.trans ⟨rfl, rfl, rfl, by simp [World.setCell], fun q _ hq => Below.heap_setCell _ _ _ _ (fun e => hq (e ▸ hg))⟩
theorem Tch.below {gs : List Nat} {w a b : World} {B : Nat} (h : Below B w a) (ht : Tch gs a b) (hg : ∀ g ∈ gs, B ≤ g) (hB : B ≤ w.heap.size) : Below B w b :=
  ⟨ht.os.trans h.os, ht.tape.trans h.tape, ht.output.trans h.output, Nat.le_trans h.size ht.size, fun k hk => (ht.block k (by have := h.size; omega) (fun e => by have := hg k e; omega)).trans (h.block k hk)⟩
theorem Tch.box {gs : List Nat} {w w' : World} (ht : Tch gs w w') {g : Nat} {t : TypeId} {v : Value} (h : BoxAt w g t v) (hg : g ∉ gs) : BoxAt w' g t v := by
  unfold BoxAt; rw [ht.block g h.lt hg]; exact h

end Bw
end Go.Proofs.YthdhhmflfdbkhaaGreatDoor

/- An answer of three: a row, a number, an error. -/
namespace Go.Proofs.YthdhhmflfdbkhaaGreatDoor
namespace Bw
def takeV (A : List UInt8 × Nat × Int) : Value := .tuple #[.string ⟨A.1.toArray⟩, .int .i64 A.2.1, .int .i64 A.2.2]
end Bw
end Go.Proofs.YthdhhmflfdbkhaaGreatDoor

/- What stuff.Take answers of any text and any number: the bits that were there ahead of Put, how many bits they take, and else which error. -/
namespace Go.Proofs.YthdhhmflfdbkhaaGreatDoor
open Go.ChangeShapes Go.WideShapes Go.ChangeAt Go.RowKit
namespace Bw
open Bm

set_option maxHeartbeats 1000000 in
theorem take_bad (s : ByteArray) (n : Int) (w : World) (hs : s.size ≤ maxLen) (hc : checkE s.data.toList ≠ 0) :
    Calls Tryz.prog 80 #[.string s, .int .i64 n] w fun e w' => e = .returned (.tuple #[.string ⟨#[]⟩, .int .i64 0, .int .i64 (checkE s.data.toList)]) ∧ Below w.heap.size w w' := by
  have HS := Hid.mk hs
  have hc' : (checkE s.data.toList == 0) = false := by simpa using hc
  clear hs
  go_enter Tryz.func80, Tryz.ntmps80
  go_wp2_with fail
  refine (check_any s w HS.out).mono ?_
  rintro e w1 ⟨rfl, hb1⟩
  go_wp2_with fail
  go_ret3
  exact ⟨rfl, hb1⟩

set_option maxHeartbeats 1000000 in
theorem take_range (s : ByteArray) (n : Int) (w : World) (hc : checkE s.data.toList = 0) (hn : n < 0 ∨ 1000 < n) :
    Calls Tryz.prog 80 #[.string s, .int .i64 n] w fun e w' => e = .returned (.tuple #[.string ⟨#[]⟩, .int .i64 0, .int .i64 3]) ∧ Below w.heap.size w w' := by
  obtain ⟨h1000, hrow⟩ := small_of_check hc
  have hck := fun W => check_any s W (by unfold maxLen; omega)
  rw [hc] at hck
  have HN := Hid.mk hn
  clear hc hrow hn
  go_enter Tryz.func80, Tryz.ntmps80
  go_wp2_with fail
  refine (hck w).mono ?_
  rintro e w1 ⟨rfl, hb1⟩
  clear hck
  go_wp2_with fail
  refine (isLength_no n w1 HN.out).mono ?_
  rintro e w2 ⟨rfl, hw2⟩
  subst hw2
  go_wp2_with fail
  go_ret3
  exact ⟨rfl, hb1⟩


set_option maxHeartbeats 8000000 in
set_option maxRecDepth 100000 in
theorem take_ok (s : ByteArray) (n : Nat) (w : World) (hc : checkE s.data.toList = 0) (hn : n ≤ 1000) :
    Calls Tryz.prog 80 #[.string s, .int .i64 n] w fun e w' => e = .returned (takeV (takeG s.data.toList n 0 [])) ∧ Below w.heap.size w w' := by
  obtain ⟨i0, hi, hz0, hz1, hz2⟩ := info_parts info_u8
  obtain ⟨h1000, hrow⟩ := small_of_check hc
  have hck := fun W => check_any s W (by unfold maxLen; omega)
  rw [hc] at hck
  clear hc hrow
  obtain ⟨A, hA⟩ : ∃ A, A = takeG s.data.toList n 0 [] := ⟨_, rfl⟩
  rw [← hA]
  have HA := Hid.mk hA
  clear hA
  have hll : s.data.toList.length = s.size := by simp
  have HLL := Hid.mk hll
  clear hll
  go_enter Tryz.func80, Tryz.ntmps80
  go_wp2_with fail
  refine (hck w).mono ?_
  rintro e w1 ⟨rfl, hb1⟩
  clear hck
  have hw1 := hb1.size
  go_wp2_with fail
  refine (isLength_yes n w1 (by omega) (by omega)).mono ?_
  rintro e w2 ⟨rfl, hw2⟩
  subst hw2
  go_wp2_with fail
  go_loopw [8, 10, 21] (fun r uu i wr => ∃ (k u : Nat) (o : List UInt8), k ≤ n ∧ u ≤ s.size ∧ i = .int .i64 k ∧ uu = .int .i64 u ∧ o.length = k ∧ (endR (s.data.toList.take u)).2 ≤ 4 ∧ takeG s.data.toList (n - k) u o = A ∧ wr.ownsRow (w2.heap.size + 1) 5 1 r o.length (cellsOf o) ∧ isRun wr w2.heap.size (endR (s.data.toList.take u)) ∧ Below w.heap.size w wr ∧ w2.heap.size + 1 ≤ wr.heap.size) (fun _ _ i _ => n - (intOf i).toNat)
  case atStart => exact ⟨0, 0, [], Nat.zero_le _, Nat.zero_le _, rfl, rfl, rfl, by simp [endR], HA.out.symm, World.ownsRow_nil _ _ _ _, heap_alloc_new w2 _, hb1.alloc hw1 _, by simp⟩
  case round =>
    obtain ⟨k, u, o, hk, hu, rfl, rfl, hol, h4, hG, hown, hrun, hbel, hsz⟩ := hrel
    have HG := Hid.mk hG
    have H4 := Hid.mk h4
    have HOL := Hid.mk hol
    have HRUN := Hid.mk hrun
    have hol2 : o.length ≤ 1000 := by omega
    clear hG h4 hrun hol
    by_cases hkn : k < n
    · have hkn' : (k : Int) < (n : Int) := by omega
      have hm : n - k = (n - (k + 1)) + 1 := by omega
      have HM := Hid.mk hm
      clear hm
      by_cases hlt : u < s.size
      · have hlt' : (u : Int) < (s.size : Int) := by omega
        obtain ⟨c, hcE⟩ : ∃ c, c = s[u] := ⟨_, rfl⟩
        have hgd : s.data.toList.getD u 0 = c := by rw [hcE, at_getD s u hlt]
        have HGD := Hid.mk hgd
        have hcv : s[u] = c := hcE.symm
        clear hcE hgd
        go_wp2_with (at_builtin; refine wpList_append_own _ rfl (.tmp 32) (.tmp 34) 22 rfl (w2.heap.size + 1) 5 i0 (.int .u8 0) 1 1 Tryz.underlying22 hi hz0 hz1 hz2 rfl (by decide) _ _ _ rfl (hown.alloc _) ⟨wr.heap.size, 0, none⟩ 1 1 [Value.int .u8 c.toNat] rfl rfl (by intro q u hq; match q, hq with | 0, hq => (simp at hq; subst hq; simp [Addr.add])) (by intro u hu; simp at hu; subst hu; rfl) (by unfold maxLen; omega) (by omega) (by simp; omega) ?_; intro v1 w3 hown1 hgrow1 _)
        have hbw3 : Below (w2.heap.size + 1) wr w3 := Below.grown ((Below.refl _ _).alloc hsz _) hgrow1 (by simp; omega) (fun q hq => (hown.lt q hq).1)
        have hrun3 := isRun_at HRUN.out hbw3 (by omega)
        have hbel3 := hbel.trans (hbw3.mono (Nat.le_trans hw1 (Nat.le_succ _)))
        have hsz3 : w2.heap.size + 1 ≤ w3.heap.size := Nat.le_trans hsz hbw3.size
        have hown1' : w3.ownsRow (w2.heap.size + 1) 5 1 v1 (o ++ [c]).length (cellsOf (o ++ [c])) := by
          rw [cellsOf_append, List.length_append]; exact hown1
        have HOWN1 := Hid.mk hown1'
        have hadd := add_any w2.heap.size (endR (s.data.toList.take u)) c w3 (by have := H4.out; omega) hrun3
        have hnx := end_next s.data.toList u (by rw [HLL.out]; exact hlt)
        rw [HGD.out] at hnx
        rw [← hnx] at hadd
        have HADD := Hid.mk hadd
        have hon := end_on s.data.toList u (by rw [HLL.out]; exact hlt) H4.out
        have HON := Hid.mk hon
        clear hown hown1 hown1' hgrow1 hbw3 hbel hsz hrun3 HRUN hadd hnx hon
        go_wp2_with fail
        refine HADD.out.mono ?_
        rintro e w4 ⟨rfl, hrun4, hat4⟩
        have hown4 := hat4.owns HOWN1.out (Nat.lt_succ_self _)
        have hbel4 := hbel3.trans (hat4.below hw1)
        have hsz4 : w2.heap.size + 1 ≤ w4.heap.size := by rw [hat4.size]; exact hsz3
        have HRUN4 := Hid.mk hrun4
        clear HOWN1 HADD hat4 hbel3 hsz3 hrun4
        by_cases h5 : (endR (s.data.toList.take (u + 1))).2 = 5
        · have h5b : ((endR (s.data.toList.take (u + 1))).2 == 5) = true := by simpa using h5
          have H5 := Hid.mk h5
          clear h5
          by_cases hlt2 : u + 1 < s.size
          · have hlt2' : (u : Int) + 1 < (s.size : Int) := by omega
            obtain ⟨d, hdE⟩ : ∃ d, d = s[u + 1] := ⟨_, rfl⟩
            have hgd2 : s.data.toList.getD (u + 1) 0 = d := by rw [hdE, at_getD s (u + 1) hlt2]
            have HGD2 := Hid.mk hgd2
            have hdv : s[u + 1] = d := hdE.symm
            clear hdE hgd2
            by_cases h6 : d = c
            · have h6' : ((d.toNat : Int) == (c.toNat : Int)) = true := by rw [h6]; simp
              have hfin : A = ([], 0, 5) := by
                rw [← HG.out, HM.out]
                exact takeG_six _ _ _ _ (by rw [HLL.out]; exact hlt2) H5.out (by rw [HGD.out, HGD2.out]; exact h6)
              subst hfin
              clear h6
              go_wp2_with fail
              go_ret3
              exact ⟨rfl, hbel4⟩
            · have h6' : ((d.toNat : Int) == (c.toNat : Int)) = false := by
                have : d.toNat ≠ c.toNat := fun h => h6 (UInt8.toNat_inj.1 h)
                rw [beq_eq_false_iff_ne]; omega
              have hG2 : takeG s.data.toList (n - (k + 1)) (u + 2) (o ++ [c]) = A := by
                rw [← HG.out, HM.out, takeG_on5 _ _ _ _ (by rw [HLL.out]; exact hlt2) H5.out (by rw [HGD.out, HGD2.out]; exact h6), HGD.out]
              have HG2 := Hid.mk hG2
              have hadd := add_any w2.heap.size (endR (s.data.toList.take (u + 1))) d w4 (by have := H5.out; omega) HRUN4.out
              have hnx := end_next s.data.toList (u + 1) (by rw [HLL.out]; exact hlt2)
              rw [HGD2.out] at hnx
              rw [← hnx] at hadd
              have HADD := Hid.mk hadd
              have hon := end_on5 s.data.toList u (by rw [HLL.out]; exact hlt2) (by rw [HGD.out, HGD2.out]; exact h6)
              have hon' : (endR (s.data.toList.take (u + 2))).2 ≤ 4 := by rw [hon]; simp
              have HON2 := Hid.mk hon'
              clear h6 hG2 hadd hnx hon hon' HRUN4
              go_wp2_with fail
              refine HADD.out.mono ?_
              rintro e w5 ⟨rfl, hrun5, hat5⟩
              have hown5 := hat5.owns hown4 (Nat.lt_succ_self _)
              have hbel5 := hbel4.trans (hat5.below hw1)
              have hsz5 : w2.heap.size + 1 ≤ w5.heap.size := by rw [hat5.size]; exact hsz4
              clear hown4 HADD hat5 hbel4 hsz4
              go_wp2_with fail
              go_roundw
              case rel => exact ⟨k + 1, u + 2, o ++ [c], by omega, by omega, by go_num, int_eq (by omega), by rw [List.length_append, HOL.out]; rfl, HON2.out, HG2.out, hown5, hrun5, hbel5, hsz5⟩
              case measure => simp [intOf]; omega
          · have hlt2' : ((u : Int) + 1 == (s.size : Int)) = true := by simp; omega
            have hfin : A = ([], 0, 7) := by
              rw [← HG.out, HM.out]
              exact takeG_end5 _ _ _ _ (by rw [HLL.out]; omega) H5.out
            subst hfin
            go_wp2_with fail
            go_ret3
            exact ⟨rfl, hbel4⟩
        · have h5b : ((endR (s.data.toList.take (u + 1))).2 == 5) = false := by simpa using h5
          have hG2 : takeG s.data.toList (n - (k + 1)) (u + 1) (o ++ [c]) = A := by
            rw [← HG.out, HM.out, takeG_on _ _ _ _ (by rw [HLL.out]; exact hlt) h5, HGD.out]
          have HG2 := Hid.mk hG2
          have hon := HON.out h5
          have HON2 := Hid.mk hon
          clear h5 hG2 hon
          go_wp2_with fail
          go_roundw
          case rel => exact ⟨k + 1, u + 1, o ++ [c], by omega, by omega, by go_num, int_eq (by omega), by rw [List.length_append, HOL.out]; rfl, HON2.out, HG2.out, hown4, HRUN4.out, hbel4, hsz4⟩
          case measure => simp [intOf]; omega
      · have hlt' : ((u : Int) == (s.size : Int)) = true := by simp; omega
        have hfin : A = ([], 0, 7) := by
          rw [← HG.out, HM.out]
          exact takeG_end _ _ _ _ (by rw [HLL.out]; omega)
        subst hfin
        clear hown
        go_wp2_with fail
        go_ret3
        exact ⟨rfl, hbel⟩
    · have e : k = n := by omega
      subst e
      have hfin : A = (o, u, 0) := by rw [← HG.out, Nat.sub_self, takeG_zero]
      subst hfin
      have hcv := convert_own hown
      clear hown
      go_wp2_with fail
      go_ret3
      exact ⟨rfl, hbel⟩
end Bw
end Go.Proofs.YthdhhmflfdbkhaaGreatDoor

/- What the readers' small methods answer: a fault, plain bits, bits without those put in. -/
namespace Go.Proofs.YthdhhmflfdbkhaaGreatDoor
open Go.ChangeShapes Go.WideShapes Go.ChangeAt Go.RowKit
namespace Bw
open Bm Cm Go.Sort

/-- what a reader knows of the frame -/
structure Fd where
  id : Int
  lo : Bool
  fa : Bool
  re : Bool
  sz : Int
  d : Value
/-- block g holds a reader -/
def RdAt (w : World) (g : Nat) (b : ByteArray) (S : RS) (F : Fd) : Prop :=
  w.heap[g]? = some (.cells #[.string b, .int .i64 S.u, .int .i64 S.fl, .string ⟨S.o.toArray⟩, .int .i64 F.id, .bool F.lo, .bool F.fa, .bool F.re, .int .i64 F.sz, F.d] 53 (0, 0))
theorem RdAt.lt {w : World} {g : Nat} {b : ByteArray} {S : RS} {F : Fd} (h : RdAt w g b S F) : g < w.heap.size := by
  rcases Nat.lt_or_ge g w.heap.size with h' | h'
  · exact h'
  · unfold RdAt at h; rw [Array.getElem?_eq_none h'] at h; cases h
theorem RdAt.kept {w w' : World} {g : Nat} {b : ByteArray} {S : RS} {F : Fd} (h : RdAt w g b S F) (hb : Below w.heap.size w w') : RdAt w' g b S F := by
  unfold RdAt; rw [hb.block g h.lt]; exact h
theorem RdAt.cell {w : World} {g : Nat} {b : ByteArray} {S : RS} {F : Fd} (h : RdAt w g b S F) (k : Nat) : w.cell? ⟨g, k, none⟩ = #[.string b, .int .i64 S.u, .int .i64 S.fl, .string ⟨S.o.toArray⟩, .int .i64 F.id, .bool F.lo, .bool F.fa, .bool F.re, .int .i64 F.sz, F.d][k]? := cell_of_row w g k _ _ _ h
theorem RdAt.c0 {w : World} {g : Nat} {b : ByteArray} {S : RS} {F : Fd} (h : RdAt w g b S F) : w.cell? ⟨g, 0, none⟩ = some (.string b) := h.cell 0
theorem RdAt.c1 {w : World} {g : Nat} {b : ByteArray} {S : RS} {F : Fd} (h : RdAt w g b S F) : w.cell? ⟨g, 1, none⟩ = some (.int .i64 S.u) := h.cell 1
theorem RdAt.c2 {w : World} {g : Nat} {b : ByteArray} {S : RS} {F : Fd} (h : RdAt w g b S F) : w.cell? ⟨g, 2, none⟩ = some (.int .i64 S.fl) := h.cell 2
theorem RdAt.c3 {w : World} {g : Nat} {b : ByteArray} {S : RS} {F : Fd} (h : RdAt w g b S F) : w.cell? ⟨g, 3, none⟩ = some (.string ⟨S.o.toArray⟩) := h.cell 3
theorem RdAt.c4 {w : World} {g : Nat} {b : ByteArray} {S : RS} {F : Fd} (h : RdAt w g b S F) : w.cell? ⟨g, 4, none⟩ = some (.int .i64 F.id) := h.cell 4
theorem RdAt.c5 {w : World} {g : Nat} {b : ByteArray} {S : RS} {F : Fd} (h : RdAt w g b S F) : w.cell? ⟨g, 5, none⟩ = some (.bool F.lo) := h.cell 5
theorem RdAt.c6 {w : World} {g : Nat} {b : ByteArray} {S : RS} {F : Fd} (h : RdAt w g b S F) : w.cell? ⟨g, 6, none⟩ = some (.bool F.fa) := h.cell 6
theorem RdAt.c7 {w : World} {g : Nat} {b : ByteArray} {S : RS} {F : Fd} (h : RdAt w g b S F) : w.cell? ⟨g, 7, none⟩ = some (.bool F.re) := h.cell 7
theorem RdAt.c8 {w : World} {g : Nat} {b : ByteArray} {S : RS} {F : Fd} (h : RdAt w g b S F) : w.cell? ⟨g, 8, none⟩ = some (.int .i64 F.sz) := h.cell 8
theorem RdAt.c9 {w : World} {g : Nat} {b : ByteArray} {S : RS} {F : Fd} (h : RdAt w g b S F) : w.cell? ⟨g, 9, none⟩ = some F.d := h.cell 9
theorem RdAt.z {w : World} {g : Nat} {b : ByteArray} {S : RS} {F : Fd} (h : RdAt w g b S F) (k : Nat) : w.frozen? ⟨g, k, none⟩ = false := frozen_of_row w g k _ _ h
theorem RdAt.setU {w : World} {g : Nat} {b : ByteArray} {S : RS} {F : Fd} (h : RdAt w g b S F) (n : Nat) : RdAt (w.setCell ⟨g, 1, none⟩ (.int .i64 n)) g b ⟨S.fl, n, S.o⟩ F := heap_setCell_same w g 1 _ _ _ h
theorem RdAt.setFl {w : World} {g : Nat} {b : ByteArray} {S : RS} {F : Fd} (h : RdAt w g b S F) (e : Int) : RdAt (w.setCell ⟨g, 2, none⟩ (.int .i64 e)) g b ⟨e, S.u, S.o⟩ F := heap_setCell_same w g 2 _ _ _ h
theorem RdAt.setO {w : World} {g : Nat} {b : ByteArray} {S : RS} {F : Fd} (h : RdAt w g b S F) (o : List UInt8) : RdAt (w.setCell ⟨g, 3, none⟩ (.string ⟨o.toArray⟩)) g b ⟨S.fl, S.u, o⟩ F := heap_setCell_same w g 3 _ _ _ h
theorem RdAt.setId {w : World} {g : Nat} {b : ByteArray} {S : RS} {F : Fd} (h : RdAt w g b S F) (x : Int) : RdAt (w.setCell ⟨g, 4, none⟩ (.int .i64 x)) g b S ⟨x, F.lo, F.fa, F.re, F.sz, F.d⟩ := heap_setCell_same w g 4 _ _ _ h
theorem RdAt.setLo {w : World} {g : Nat} {b : ByteArray} {S : RS} {F : Fd} (h : RdAt w g b S F) (x : Bool) : RdAt (w.setCell ⟨g, 5, none⟩ (.bool x)) g b S ⟨F.id, x, F.fa, F.re, F.sz, F.d⟩ := heap_setCell_same w g 5 _ _ _ h
theorem RdAt.setFa {w : World} {g : Nat} {b : ByteArray} {S : RS} {F : Fd} (h : RdAt w g b S F) (x : Bool) : RdAt (w.setCell ⟨g, 6, none⟩ (.bool x)) g b S ⟨F.id, F.lo, x, F.re, F.sz, F.d⟩ := heap_setCell_same w g 6 _ _ _ h
theorem RdAt.setRe {w : World} {g : Nat} {b : ByteArray} {S : RS} {F : Fd} (h : RdAt w g b S F) (x : Bool) : RdAt (w.setCell ⟨g, 7, none⟩ (.bool x)) g b S ⟨F.id, F.lo, F.fa, x, F.sz, F.d⟩ := heap_setCell_same w g 7 _ _ _ h
theorem RdAt.setSz {w : World} {g : Nat} {b : ByteArray} {S : RS} {F : Fd} (h : RdAt w g b S F) (x : Int) : RdAt (w.setCell ⟨g, 8, none⟩ (.int .i64 x)) g b S ⟨F.id, F.lo, F.fa, F.re, x, F.d⟩ := heap_setCell_same w g 8 _ _ _ h
theorem RdAt.setD {w : World} {g : Nat} {b : ByteArray} {S : RS} {F : Fd} (h : RdAt w g b S F) (x : Value) : RdAt (w.setCell ⟨g, 9, none⟩ x) g b S ⟨F.id, F.lo, F.fa, F.re, F.sz, x⟩ := heap_setCell_same w g 9 _ _ _ h
theorem Tch.rd {gs : List Nat} {w w' : World} (ht : Tch gs w w') {g : Nat} {b : ByteArray} {S : RS} {F : Fd} (h : RdAt w g b S F) (hg : g ∉ gs) : RdAt w' g b S F := by
  unfold RdAt; rw [ht.block g h.lt hg]; exact h

set_option maxHeartbeats 1000000 in
theorem fail_any (g : Nat) (b : ByteArray) (S : RS) (F : Fd) (x : Int) (w : World) (h : RdAt w g b S F) :
    Calls Tryz.prog 51 #[.pointer (some ⟨g, 0, none⟩), .int .i64 x] w fun e w' => e = .returned (.tuple #[]) ∧ RdAt w' g b (failP S x) F ∧ Tch [g] w w' := by
  have hc := h.c2
  have hz := h.z 2
  have H := Hid.mk h
  unfold failP
  clear h
  by_cases hf : S.fl = 0
  · rw [if_pos hf]
    rw [hf] at hc
    go_enter Tryz.func51, Tryz.ntmps51
    go_wp2_with fail
    go_end0
    exact ⟨rfl, H.out.setFl x, (Tch.refl _ _).setK (by simp) _ _⟩
  · rw [if_neg hf]
    have h1 : (S.fl == 0) = false := by simpa using hf
    go_enter Tryz.func51, Tryz.ntmps51
    go_wp2_with fail
    go_end0
    exact ⟨rfl, H.out, Tch.refl _ _⟩

theorem failP_7 (b : List UInt8) (S : RS) (n : Nat) (h : b.length < S.u + n) : (failP S 7).fl ≠ 0 ∧ nextP b S n = ([], failP S 7) := by
  unfold failP nextP
  by_cases hf : S.fl = 0
  · rw [if_pos hf, if_pos hf, if_pos h]
    exact ⟨by simp, rfl⟩
  · rw [if_neg hf, if_neg hf]
    exact ⟨hf, rfl⟩
set_option maxHeartbeats 2000000 in
theorem nextB_any (g n : Nat) (b : ByteArray) (S : RS) (F : Fd) (w : World) (h : RdAt w g b S F) (h1000 : b.size ≤ 1000) (hu : S.u ≤ b.size) (hn : n ≤ 1000) :
    Calls Tryz.prog 55 #[.pointer (some ⟨g, 0, none⟩), .int .i64 n] w fun e w' =>
      e = .returned (.string ⟨(nextP b.data.toList S n).1.toArray⟩) ∧ RdAt w' g b (nextP b.data.toList S n).2 F ∧ Tch [g] w w' := by
  have hbl : b.data.toList.length = b.size := by simp
  have c0 := h.c0
  have c1 := h.c1
  have c2 := h.c2
  have z1 := h.z 1
  by_cases hlt : b.size < S.u + n
  · obtain ⟨hne, he⟩ := failP_7 b.data.toList S n (by rw [hbl]; exact hlt)
    rw [he]
    have hfa := fun W hW => fail_any g b S F 7 W hW
    have hd : decide ((b.size : Int) - (S.u : Int) < (n : Int)) = true := by simp; omega
    have hnb : ((failP S 7).fl != 0) = true := by simpa using hne
    have HFA := Hid.mk hfa
    have H := Hid.mk h
    clear h hfa hbl he hne
    go_enter Tryz.func55, Tryz.ntmps55
    go_wp2_with fail
    go_quiet (fail)
    have hB : Below w.heap.size w (w.drewN nq) := ⟨rfl, rfl, rfl, Nat.le_refl _, fun _ _ => rfl⟩
    go_wp2_with fail
    refine (HFA.out _ (H.out.kept hB)).mono ?_
    rintro e w1 ⟨rfl, h1, t1⟩
    have t2 : Tch [g] w w1 := (Tch.of hB).trans t1
    have k2 := h1.c2
    have H1 := Hid.mk h1
    clear hB t1 h1 c0 c1 c2 z1 H HFA
    go_wp2_with fail
    go_ret
    exact ⟨rfl, H1.out, t2⟩
  · have hle : (S.u : Int) + (n : Int) ≤ (b.size : Int) := by omega
    have hd : decide ((b.size : Int) - (S.u : Int) < (n : Int)) = false := by simp; omega
    unfold nextP
    rw [hbl]
    by_cases hf : S.fl = 0
    · rw [if_pos hf, if_neg hlt]
      rw [hf] at c2
      have H := Hid.mk h
      have hx : (b.extract S.u (S.u + n)).data.toList = (b.data.toList.drop S.u).take n := extract_list b S.u n
      have hsl : ∀ W, (Instr.slice 9 (.string b) (some (.int .i64 (S.u : Int))) (some (.int .i64 ((S.u : Int) + (n : Int)))) none).run Tryz.prog W = .ok (.string ⟨((b.data.toList.drop S.u).take n).toArray⟩) W := by
        intro W
        rw [run_slice_string W _ b _ _ _ _ Tryz.underlying9 (by omega) (by omega) (by omega)]
        have e1 : ((S.u : Int)).toNat = S.u := by omega
        have e2 : ((S.u : Int) + (n : Int)).toNat = S.u + n := by omega
        rw [e1, e2, ba_eq hx]
      generalize ByteArray.mk ((b.data.toList.drop S.u).take n).toArray = T at *
      clear hbl hx h
      go_enter Tryz.func55, Tryz.ntmps55
      go_wp2_with fail
      go_quiet (fail)
      obtain ⟨w1, hw1⟩ : ∃ w1, w1 = w.drewN nq := ⟨_, rfl⟩
      have hB : Below w.heap.size w w1 := by rw [hw1]; exact ⟨rfl, rfl, rfl, Nat.le_refl _, fun _ _ => rfl⟩
      rw [← hw1]
      have h1 := H.out.kept hB
      have d0 := h1.c0
      have d1 := h1.c1
      have d2 := h1.c2
      rw [hf] at d2
      have y1 := h1.z 1
      have hs := h1.setU (S.u + n)
      rw [show ((S.u + n : Nat) : Int) = (S.u : Int) + (n : Int) by omega] at hs
      have ht : Tch [g] w (w1.setCell ⟨g, 1, none⟩ (.int .i64 ((S.u : Int) + (n : Int)))) := (Tch.of hB).setK (by simp) _ _
      have s0 := hs.c0
      have s1 := hs.c1
      rw [show ((S.u + n : Nat) : Int) = (S.u : Int) + (n : Int) by omega] at s1
      have HSS := Hid.mk hs
      have HT := Hid.mk ht
      clear hw1 hB h1 c0 c1 c2 z1 hs ht
      go_wp2_with fail
      go_quiet (fail)
      have hB2 : Below (w1.setCell ⟨g, 1, none⟩ (.int .i64 ((S.u : Int) + (n : Int)))).heap.size (w1.setCell ⟨g, 1, none⟩ (.int .i64 ((S.u : Int) + (n : Int)))) ((w1.setCell ⟨g, 1, none⟩ (.int .i64 ((S.u : Int) + (n : Int)))).drewN nq) := ⟨rfl, rfl, rfl, Nat.le_refl _, fun _ _ => rfl⟩
      go_wp2_with fail
      go_ret
      exact ⟨rfl, by rw [← hf]; exact HSS.out.kept hB2, HT.out.trans (Tch.of hB2)⟩
    · rw [if_neg hf]
      have hnb : (S.fl != 0) = true := by simpa using hf
      have H := Hid.mk h
      clear hbl h
      go_enter Tryz.func55, Tryz.ntmps55
      go_wp2_with fail
      go_quiet (fail)
      have hB : Below w.heap.size w (w.drewN nq) := ⟨rfl, rfl, rfl, Nat.le_refl _, fun _ _ => rfl⟩
      go_wp2_with fail
      go_ret
      exact ⟨rfl, H.out.kept hB, Tch.of hB⟩
end Bw
end Go.Proofs.YthdhhmflfdbkhaaGreatDoor

/- What the readers' methods take, number and want answer. -/
namespace Go.Proofs.YthdhhmflfdbkhaaGreatDoor
open Go.ChangeShapes Go.WideShapes Go.ChangeAt Go.RowKit
namespace Bw
open Bm Cm Go.Sort

theorem takeG_okP (b : List UInt8) (m : Nat) (h : (takeG b m 0 []).2.2 = 0) : (takeG b m 0 []).1.length = m := takeG_len b m h
set_option maxHeartbeats 4000000 in
theorem take_any (g n : Nat) (b : ByteArray) (S : RS) (F : Fd) (w : World) (h : RdAt w g b S F) (hc : checkE b.data.toList = 0) (ho : S.o.length + n ≤ 1000) :
    Calls Tryz.prog 50 #[.pointer (some ⟨g, 0, none⟩), .int .i64 n] w fun e w' =>
      e = .returned (.string ⟨(takeP b.data.toList S n).1.toArray⟩) ∧ RdAt w' g b (takeP b.data.toList S n).2 F ∧ Tch [g] w w' := by
  by_cases hf : S.fl = 0
  · have ht := fun W => take_ok b (S.o.length + n) W hc ho
    have hlen := takeG_okP b.data.toList (S.o.length + n)
    unfold takeP
    rw [if_pos hf]
    generalize takeG b.data.toList (S.o.length + n) 0 [] = A at *
    obtain ⟨o', u', er⟩ := A
    unfold takeV at ht
    simp only at ht hlen ⊢
    have c2 := h.c2
    rw [hf] at c2
    have hos := mk_size S.o
    have hTs := mk_size o'
    have hTl := mk_list o'
    have harg : ((S.o.length + n : Nat) : Int) = (S.o.length : Int) + (n : Int) := by omega
    rw [harg] at ht
    rw [← hos] at ht
    have r0 := fun d os => (cell_regrown h.c0 d os)
    have r3 := fun d os => (cell_regrown h.c3 d os)
    obtain ⟨O, hO⟩ : ∃ O, O = ByteArray.mk S.o.toArray := ⟨_, rfl⟩
    rw [← hO] at ht hos r3
    have hOm : O.size ≤ 1000 := by omega
    have hOn : (O.size : Int) + (n : Int) ≤ 1000 := by omega
    have HT := Hid.mk ht
    have H := Hid.mk h
    have HO := Hid.mk hO
    have HOS := Hid.mk hos
    have HLEN := Hid.mk hlen
    clear h ht hc ho hO hos hlen harg
    by_cases he : er = 0
    · subst he
      rw [if_pos rfl]
      have hl := HLEN.out rfl
      have htl : o'.length = O.size + n := by rw [hl, HOS.out]
      have hsl : ∀ W, (Instr.slice 9 (.string ⟨o'.toArray⟩) (some (.int .i64 (O.size : Int))) none none).run Tryz.prog W = .ok (.string ⟨(o'.drop S.o.length).toArray⟩) W := by
        intro W
        rw [run_slice_string_l W _ (ByteArray.mk o'.toArray) Tryz.underlying9 .i64 _ (by omega) (by rw [hTs, htl]; omega)]
        have e1 : ((O.size : Int)).toNat = S.o.length := by rw [HOS.out]; omega
        have e2 : (ByteArray.mk o'.toArray).size = S.o.length + n := by rw [hTs, htl, HOS.out]
        have e3 : ((ByteArray.mk o'.toArray).extract S.o.length (S.o.length + n)).data.toList = o'.drop S.o.length := by
          rw [extract_list, hTl, List.take_of_length_le (by rw [List.length_drop]; omega)]
        rw [e1, e2, ba_eq e3]
      obtain ⟨T, hT⟩ : ∃ T, T = ByteArray.mk o'.toArray := ⟨_, rfl⟩
      obtain ⟨X, hX⟩ : ∃ X, X = ByteArray.mk (o'.drop S.o.length).toArray := ⟨_, rfl⟩
      rw [← hT] at HT hTs hTl hsl
      rw [← hX] at hsl ⊢
      have HTT := Hid.mk hT
      have hTm : T.size ≤ 2000 := by rw [hTs]; omega
      clear hl htl hTs hTl hT hX
      go_enter Tryz.func50, Tryz.ntmps50
      go_wp2_with fail
      refine wp_region_quiet_below (by kernel_rfl) (by kernel_rfl) ?_
      set_option maxRecDepth 100000 in
      repeat (go_big_quiet_step ((go_at_call 80; exact Calls.regrown_of (HT.out _))))
      refine wpQuiet_nil ?_
      intro _ hw'
      obtain ⟨⟨dq, osq⟩, hw''⟩ := hw'
      have hbq := below_regrown w dq osq
      rw [hw'']
      generalize grow (redrawn w dq) osq = w1 at *
      clear r0 r3 hw''
      have h1 := H.out.kept hbq
      have d3 := h1.c3
      rw [← HO.out] at d3
      have z3 := h1.z 3
      have hs1 := h1.setO o'
      have z1 := hs1.z 1
      have hs2 := hs1.setU u'
      rw [← HTT.out] at hs1 hs2 z1
      have k1 := hs1.c1
      have ht2 : Tch [g] w ((w1.setCell ⟨g, 3, none⟩ (.string T)).setCell ⟨g, 1, none⟩ (.int .i64 u')) := ((Tch.of hbq).setK (by simp) _ _).setK (by simp) _ _
      have HS2 := Hid.mk hs2
      have HT2 := Hid.mk ht2
      clear hbq h1 hs1 hs2 ht2 c2
      go_wp2_with fail
      go_ret
      exact ⟨rfl, by rw [← hf]; exact HS2.out, HT2.out⟩
    · rw [if_neg he]
      have hne : (er != 0) = true := by simpa using he
      have hfl := fun W hW => fail_any g b S F er W hW
      have hfp : failP S er = ⟨er, S.u, S.o⟩ := by unfold failP; rw [if_pos hf]
      rw [hfp] at hfl
      have HF := Hid.mk hfl
      generalize ByteArray.mk o'.toArray = T at *
      clear hfl hfp hTs hTl he
      go_enter Tryz.func50, Tryz.ntmps50
      go_wp2_with fail
      refine wp_region_quiet_below (by kernel_rfl) (by kernel_rfl) ?_
      set_option maxRecDepth 100000 in
      repeat (go_big_quiet_step ((go_at_call 80; exact Calls.regrown_of (HT.out _))))
      refine wpQuiet_nil ?_
      intro _ hw'
      obtain ⟨⟨dq, osq⟩, hw''⟩ := hw'
      have hbq := below_regrown w dq osq
      rw [hw'']
      generalize grow (redrawn w dq) osq = w1 at *
      clear r0 r3 hw''
      have HR1 := Hid.mk (H.out.kept hbq)
      have HT1 := Hid.mk (show Tch [g] w w1 from Tch.of hbq)
      clear hbq c2
      go_wp2_with fail
      refine (HF.out _ HR1.out).mono ?_
      rintro e w2 ⟨rfl, h2, t2⟩
      go_wp2_with fail
      go_ret
      exact ⟨rfl, h2, HT1.out.trans t2⟩
  · have hp : takeP b.data.toList S n = ([], S) := by unfold takeP; rw [if_neg hf]
    rw [hp]
    have c2 := h.c2
    have hnb : (S.fl != 0) = true := by simpa using hf
    have H := Hid.mk h
    clear h hp hc ho
    go_enter Tryz.func50, Tryz.ntmps50
    go_wp2_with fail
    go_ret
    exact ⟨rfl, H.out, Tch.refl _ _⟩

theorem numV_row {l : List UInt8} (h : rowB l = true) (hl : l.length ≤ 62) : numE l = 0 ∧ numV l = val l := by
  have h0 : numE l = 0 := by
    unfold numE
    rw [checkE_row h (by omega), if_pos rfl, if_neg (by omega)]
  refine ⟨h0, ?_⟩
  unfold numV
  rw [if_pos h0]
set_option maxHeartbeats 2000000 in
theorem numb_any (g n : Nat) (b : ByteArray) (S : RS) (F : Fd) (w : World) (h : RdAt w g b S F) (hc : checkE b.data.toList = 0) (ho : S.o.length + n ≤ 1000) (hn : n ≤ 62) :
    Calls Tryz.prog 49 #[.pointer (some ⟨g, 0, none⟩), .int .i64 n] w fun e w' =>
      e = .returned (.int .i64 (numP b.data.toList S n).1) ∧ RdAt w' g b (numP b.data.toList S n).2 F ∧ Tch [g] w w' := by
  have ht := take_any g n b S F w h hc ho
  have hrow := takeP_row b.data.toList (small_of_check hc).2 S n
  have hlen := takeP_len b.data.toList S n
  unfold numP
  have hle : (takeP b.data.toList S n).1.length ≤ 62 := by
    rcases hlen with h' | h'
    · omega
    · rw [h']; simp
  obtain ⟨n1, n2⟩ := numV_row hrow hle
  generalize takeP b.data.toList S n = A at *
  obtain ⟨t, S'⟩ := A
  simp only at ht hle hrow n1 n2 ⊢
  have hTl := mk_list t
  generalize ByteArray.mk t.toArray = T at *
  have hnu := fun W => number_any T W (by rw [ba_size hTl]; unfold maxLen; omega)
  rw [hTl, n1, n2] at hnu
  have HT := Hid.mk ht
  have HN := Hid.mk hnu
  clear ht hrow hlen hTl hle n1 n2 hnu h hc ho hn
  generalize val t = vt at *
  go_enter Tryz.func49, Tryz.ntmps49
  go_wp2_with fail
  refine HT.out.mono ?_
  rintro e w1 ⟨rfl, h1, t1⟩
  go_wp2_with fail
  refine (HN.out _).mono ?_
  rintro e w2 ⟨rfl, hb2⟩
  have h2 := h1.kept hb2
  have t2 := t1.trans (Tch.of hb2)
  clear h1 t1 hb2
  go_wp2_with fail
  go_ret
  exact ⟨rfl, h2, t2⟩
end Bw
end Go.Proofs.YthdhhmflfdbkhaaGreatDoor
