/- What wire.Send answers of any frames. -/
import Derived.Test.YtfomempleaceiaaDoorW1
import Derived.Test.YtfomempleaceiaaDoorC4
import Derived.Test.YtfomempleaceiaaDoorW2
import Derived.Test.YtfomempleaceiaaDoorFrBack
namespace Go.Proofs.YtfomempleaceiaaDoor
namespace Bw
open Bm
theorem less_irr : ∀ a : List UInt8, Op.bytesLess a a = false
  | [] => rfl
  | x :: a => by simp [Op.bytesLess, less_irr a]
theorem less_tot : ∀ a b : List UInt8, Op.bytesLess a b = false → Op.bytesLess b a = false → a = b
  | [], [], _, _ => rfl
  | [], y :: b, h, _ => by simp [Op.bytesLess] at h
  | x :: a, [], _, h => by simp [Op.bytesLess] at h
  | x :: a, y :: b, h1, h2 => by
    by_cases h : x = y
    · subst h
      simp [Op.bytesLess] at h1 h2
      rw [less_tot a b h1 h2]
    · have h' : ¬ y = x := fun e => h e.symm
      simp [Op.bytesLess, h] at h1
      simp [Op.bytesLess, h'] at h2
      exact absurd (UInt8.le_antisymm h2 h1) h
theorem less_tr : ∀ a b c : List UInt8, Op.bytesLess a b = true → Op.bytesLess b c = true → Op.bytesLess a c = true
  | _, [], [], h, _ => by
    rename_i a; cases a <;> simp [Op.bytesLess] at h
  | [], _, z :: c, _, _ => by simp [Op.bytesLess]
  | a, y :: b, [], _, h => by simp [Op.bytesLess] at h
  | x :: a, [], _, h, _ => by simp [Op.bytesLess] at h
  | x :: a, y :: b, z :: c, h1, h2 => by
    by_cases h : x = y
    · subst h
      by_cases h' : x = z
      · subst h'
        simp [Op.bytesLess] at h1 h2 ⊢
        exact less_tr a b c h1 h2
      · simp [Op.bytesLess, h'] at h2 ⊢
        exact h2
    · simp [Op.bytesLess, h] at h1
      by_cases h' : y = z
      · subst h'
        simp [Op.bytesLess, h]
        exact h1
      · simp [Op.bytesLess, h'] at h2
        have h3 := UInt8.lt_trans h1 h2
        have h4 : ¬ x = z := fun e => by rw [e] at h3; exact absurd h3 (UInt8.lt_irrefl _)
        simp [Op.bytesLess, h4]
        exact h3
theorem less_ne {a b : List UInt8} (h : Op.bytesLess a b = true) : a ≠ b := fun e => by rw [e, less_irr] at h; cases h
theorem less_not {a b : List UInt8} (h : Op.bytesLess a b = true) : Op.bytesLess b a = false := by
  rcases Bool.eq_false_or_eq_true (Op.bytesLess b a) with h' | h'
  · have := less_tr a b a h h'
    rw [less_irr] at this; cases this
  · exact h'
/-- the lesser of two texts, the first one if they are alike -/
def minB (m x : List UInt8) : List UInt8 := if Op.bytesLess x m = true then x else m
def minJ (l : List (List UInt8)) : Nat → List UInt8
  | 0 => l.getD 0 []
  | i + 1 => minB (minJ l i) (l.getD (i + 1) [])
theorem minB_or (m x : List UInt8) : minB m x = x ∨ minB m x = m := by unfold minB; split; exact .inl rfl; exact .inr rfl
theorem minB_le (m x : List UInt8) : Op.bytesLess x (minB m x) = false ∧ Op.bytesLess m (minB m x) = false := by
  unfold minB
  split
  · rename_i h
    refine ⟨less_irr x, ?_⟩
    rcases Bool.eq_false_or_eq_true (Op.bytesLess m x) with h' | h'
    · have := less_tr x m x h h'
      rw [less_irr] at this; cases this
    · exact h'
  · rename_i h
    exact ⟨by simpa using h, less_irr m⟩
theorem less_le {a b c : List UInt8} (h1 : Op.bytesLess a b = false) (h2 : Op.bytesLess b c = false) : Op.bytesLess a c = false := by
  rcases Bool.eq_false_or_eq_true (Op.bytesLess a c) with h | h
  · rcases Bool.eq_false_or_eq_true (Op.bytesLess b a) with h3 | h3
    · have := less_tr b a c h3 h
      rw [h2] at this; cases this
    · have e := less_tot a b h1 h3
      rw [e, h2] at h; cases h
  · exact h
theorem minJ_least (l : List (List UInt8)) : ∀ i, i < l.length → minJ l i ∈ l.take (i + 1) ∧ ∀ k, k ≤ i → Op.bytesLess (l.getD k []) (minJ l i) = false
  | 0, h => by
    refine ⟨?_, fun k hk => ?_⟩
    · show l.getD 0 [] ∈ _
      have : l.getD 0 [] = l[0] := by simp [List.getD, h]
      rw [this]
      exact List.mem_take_iff_getElem.2 ⟨0, by omega, rfl⟩
    · have : k = 0 := by omega
      subst this; exact less_irr _
  | i + 1, h => by
    obtain ⟨h1, h2⟩ := minJ_least l i (by omega)
    obtain ⟨m1, m2⟩ := minB_le (minJ l i) (l.getD (i + 1) [])
    refine ⟨?_, fun k hk => ?_⟩
    · rcases minB_or (minJ l i) (l.getD (i + 1) []) with e | e
      · rw [minJ, e]
        have : l.getD (i + 1) [] = l[i + 1] := by simp [List.getD, h]
        rw [this]
        exact List.mem_take_iff_getElem.2 ⟨i + 1, by omega, rfl⟩
      · rw [minJ, e]
        obtain ⟨j, hj, hx⟩ := List.mem_take_iff_getElem.1 h1
        exact List.mem_take_iff_getElem.2 ⟨j, by omega, hx⟩
    · rcases Nat.lt_or_ge i k with hx | hx
      · have : k = i + 1 := by omega
        subst this; exact m1
      · exact less_le (h2 k hx) m2
def minL (l : List (List UInt8)) : List UInt8 := minJ l (l.length - 1)
theorem minL_least (l : List (List UInt8)) (h : l ≠ []) : Least l (minL l) := by
  have hl : 0 < l.length := List.length_pos_iff.2 h
  obtain ⟨h1, h2⟩ := minJ_least l (l.length - 1) (by omega)
  refine ⟨List.mem_of_mem_take h1, fun r hr => ?_⟩
  obtain ⟨k, hk, rfl⟩ := List.getElem_of_mem hr
  have := h2 k (by omega)
  rw [show l.getD k [] = l[k] by simp [List.getD, hk]] at this
  exact this
/-- the least is one alone -/
theorem least_one_only {l : List (List UInt8)} {a b : List UInt8} (ha : Least l a) (hb : Least l b) : a = b := less_tot a b (hb.2 a ha.1) (ha.2 b hb.1)
end Bw
end Go.Proofs.YtfomempleaceiaaDoor
namespace Go.Proofs.YtfomempleaceiaaDoor
namespace Bw
open Bm Cm
theorem bits_begins (f g : Fr) (hf : frE f = 0) (hg : frE g = 0) (h : bitsL f <+: bitsL g) : f = g := by
  obtain ⟨rest, hr⟩ := h
  have h1 := (read_back g onesL [] hg (.inl rfl)).2.2
  have h2 := (read_back f onesL rest hf (.inl rfl)).2.2
  rw [List.append_nil, ← bitsL_pre, ← hr, bitsL_pre, List.append_assoc] at h1
  rw [h2] at h1
  exact h1
theorem rows_apart (fs : List Fr) (h : ∀ f ∈ fs, frE f = 0) : Apart (fs.map bitsL) := by
  intro a ha b hb hab
  obtain ⟨f, hf, rfl⟩ := List.mem_map.1 ha
  obtain ⟨g, hg, rfl⟩ := List.mem_map.1 hb
  rw [bits_begins f g (h f hf) (h g hg) hab]
end Bw
end Go.Proofs.YtfomempleaceiaaDoor
namespace Go.Proofs.YtfomempleaceiaaDoor
open Go.ChangeShapes Go.WideShapes Go.ChangeAt Go.RowKit
namespace Bw
open Bm

theorem owns_slice {w : World} {base : Nat} {e : TypeId} {size : Nat} {v : Value} {n : Nat} {xs : List Value} (h : w.ownsRow base e size v n xs) : ∃ a cap, v = .slice a n cap := by
  rcases h.2 with ⟨rfl, rfl⟩ | ⟨g, cap, cur, rfl, -⟩
  · exact ⟨_, _, rfl⟩
  · exact ⟨_, _, rfl⟩
theorem owns_some {w : World} {base : Nat} {e : TypeId} {size : Nat} {v : Value} {n : Nat} {xs : List Value} (h : w.ownsRow base e size v n xs) (h0 : 0 < n) : ∃ g cap, v = .slice (some ⟨g, 0, none⟩) n cap ∧ base ≤ g ∧ g < w.heap.size := by
  rcases h.2 with ⟨rfl, rfl⟩ | ⟨g, cap, cur, rfl, hb, hg, -⟩
  · omega
  · exact ⟨_, _, rfl, hb, lt_of_block hg⟩
theorem nums_of {w : World} {base g n cap : Nat} {l : List Int} (h : w.ownsRow base 3 1 (.slice (some ⟨g, 0, none⟩) n cap) n (intC l)) : NumsAt w g 0 l := by
  intro i hi
  have hl : (intC l).length = n * 1 := h.1
  rw [intC_length] at hl
  rw [Nat.zero_add, h.cellAt i (by omega)]
  simp [intC, List.getD, hi]
theorem intC_set (l : List Int) (i : Nat) (x : Int) : (intC l).set i (.int .i64 x) = intC (l.set i x) := by
  unfold intC; rw [List.map_set]
/-- so many set to -1 -/
def fillK (n k : Nat) : List Int := List.replicate k (-1) ++ List.replicate (n - k) 0
theorem fillK_len (n k : Nat) (h : k ≤ n) : (fillK n k).length = n := by simp [fillK]; omega
theorem fillK_set (n k : Nat) (h : k < n) : (fillK n k).set k (-1) = fillK n (k + 1) := by
  unfold fillK
  rw [List.set_append_right _ _ (by simp)]
  simp only [List.length_replicate, Nat.sub_self]
  obtain ⟨m, hm⟩ : ∃ m, n - k = m + 1 := ⟨n - k - 1, by omega⟩
  rw [hm, show n - (k + 1) = m by omega, List.replicate_succ, List.set_cons_zero, List.replicate_succ', List.append_assoc]
  rfl

set_option maxHeartbeats 8000000 in
set_option maxRecDepth 100000 in
theorem contest_any (gr cr n : Nat) (rows : List (List UInt8)) (best : List UInt8) (w : World) (hr : rows.length = n) (h1 : 1 ≤ n) (hn : n ≤ 6) (hlen : ∀ r ∈ rows, r.length ≤ 900) (hrow : ∀ r ∈ rows, rowB r = true) (hA : Apart rows) (hL : Least rows best) (hX : StrsAt w gr 0 rows) :
    Calls Tryd.prog 26 #[.slice (some ⟨gr, 0, none⟩) n cr] w fun e w' => e = .returned (.tuple #[.string ⟨best.toArray⟩, .slice (some ⟨w.heap.size, 0, none⟩) n n]) ∧
      w'.ownsRow w.heap.size 3 1 (.slice (some ⟨w.heap.size, 0, none⟩) n n) n (intC (rows.map fun r => dif r best)) ∧ Below w.heap.size w w' := by
  obtain ⟨i0, hi, hz0, hz1, hz2⟩ := info_parts info_int
  obtain ⟨j0, hj0, hy0, hy1, hy2⟩ := info_parts info_u8
  have HS := Hid.mk (fun W (lost : List Int) (at_ : Nat) (hl : lost.length = n) (hW : StrsAt W gr 0 rows) (hY : NumsAt W w.heap.size 0 lost) => senders_any gr cr w.heap.size n n at_ rows lost W hr hl hn (fun r hr => Nat.le_trans (hlen r hr) (by omega)) hW hY)
  have HX := Hid.mk hX
  have HR := Hid.mk hr
  have HLN := Hid.mk hlen
  have HRW := Hid.mk hrow
  have HAp := Hid.mk hA
  have HL := Hid.mk hL
  have hbl : best.length ≤ 900 := hlen best hL.1
  clear hX hr hlen hrow hA hL
  go_enter Tryd.func26, Tryd.ntmps26
  go_wp2_with (at_make; refine wpList_make_full _ rfl (.tmp 13) (.tmp 13) 36 rfl w.heap.size 3 i0 (.int .i64 0) 1 Tryd.underlying36 hi hz0 hz1 .i64 .i64 _ _ n rfl rfl (by omega) (by omega) (by rw [hz2]; omega) (by unfold maxLen; omega) (Nat.le_refl _) ?_; intro w2 hown hgrow)
  have hown0 : w2.ownsRow w.heap.size 3 1 (.slice (some ⟨w.heap.size, 0, none⟩) n n) n (intC (fillK n 0)) := by
    have e : intC (fillK n 0) = (madeCells (Value.int .i64 0).cells (n * 1)).toList := by
      rw [Nat.mul_one]
      show intC (fillK n 0) = (madeCells #[.int .i64 0] n).toList
      rw [toList_madeCells_one]
      simp [fillK, intC]
    rw [e]; exact hown
  have hb2 : Below w.heap.size w w2 := Below.grown (Below.refl _ _) hgrow (Nat.le_refl _) (fun q hq => by cases hq)
  clear hown hgrow
  go_loopw [17] (fun i wr => ∃ k : Nat, k ≤ n ∧ i = .int .i64 k ∧ wr.ownsRow w.heap.size 3 1 (.slice (some ⟨w.heap.size, 0, none⟩) n n) n (intC (fillK n k)) ∧ Below w.heap.size w wr) (fun i _ => n - (intOf i).toNat)
  case atStart => exact ⟨0, Nat.zero_le _, rfl, hown0, hb2⟩
  case round =>
    clear hown0 hb2
    obtain ⟨k, hk, rfl, hown, hbel⟩ := hrel
    by_cases hlt : k < n
    · have hlt' : (k : Int) < (n : Int) := by omega
      have hc3 := hown.cellAt k (by omega)
      have hf3 := hown.frozenAt k
      rw [show (intC (fillK n k))[k]? = some ((intC (fillK n k))[k]'(by rw [intC_length, fillK_len n k hk]; exact hlt)) from List.getElem?_eq_getElem _] at hc3
      generalize (intC (fillK n k))[k]'(by rw [intC_length, fillK_len n k hk]; exact hlt) = c3 at hc3
      have hst := hown.stored k (.int .i64 (-1))
      rw [intC_set, fillK_set n k hlt] at hst
      have HO4 := Hid.mk hst.1
      have HB4 := Hid.mk (hbel.grown hst.2 hbel.size (fun q hq => by cases hq; exact Nat.le_refl _))
      clear hown hst
      go_wp2_with fail
      go_roundw
      case rel => exact ⟨k + 1, by omega, by go_num, HO4.out, HB4.out⟩
      case measure => simp [intOf]; omega
    · have e : k = n := by omega
      subst e
      rw [show fillK k k = lostL rows best 0 by rw [lost_start, HR.out]; simp [fillK]] at hown
      have HL0 := Hid.mk hown
      have HB0 := Hid.mk hbel
      clear hown hbel
      go_wp2_with fail
      go_loopw [6, 24] (fun r i wr => ∃ j : Nat, j ≤ best.length ∧ i = .int .i64 j ∧ Hid (wr.ownsRow w.heap.size 5 1 r j (cellsOf (best.take j))) ∧ Hid (wr.ownsRow w.heap.size 3 1 (.slice (some ⟨w.heap.size, 0, none⟩) k k) k (intC (lostL rows best j))) ∧ Hid (ApartV r (.slice (some ⟨w.heap.size, 0, none⟩) k k)) ∧ Hid (Below w.heap.size w wr)) (fun _ i _ => 1000 - (intOf i).toNat)
      case atStart => exact ⟨0, Nat.zero_le _, rfl, Hid.mk (by simpa [cellsOf] using World.ownsRow_nil _ _ _ _), HL0, Hid.mk (fun q hq => by cases hq), HB0⟩
      case round =>
        obtain ⟨j, hj, rfl, HBus, HLo, HAp2, HBel⟩ := hrel
        have hj1000 : (j : Int) < 1000 := by omega
        have hc0 := HS.out wr (lostL rows best j) j (by rw [lostL_len, HR.out]) (fun i hi => cell_kept HBel.out (HX.out i hi)) (nums_of HLo.out)
        by_cases hlt : j < best.length
        · have hbt : best.getD j 0 = 49 ∨ best.getD j 0 = 48 := by
            have hb : bit (best.getD j 0) = true := by
              rw [List.getD, List.getElem?_eq_getElem hlt, Option.getD_some]
              exact List.all_eq_true.1 (HRW.out best HL.out.1) _ (List.getElem_mem hlt)
            rcases (bit_iff _).1 hb with h | h
            · right; exact UInt8.toNat_inj.1 (show (best.getD j 0).toNat = 48 by omega)
            · left; exact UInt8.toNat_inj.1 (show (best.getD j 0).toNat = 49 by omega)
          rcases hbt with hbt | hbt
          · have HBit := Hid.mk hbt
            obtain ⟨g1, g2, g3⟩ := one_step HAp.out HRW.out HL.out hlt hbt
            rw [HR.out] at g1 g2
            rw [g1] at hc0
            have ho1 : 0 < (oneK rows (lostL rows best j) j k).length := List.length_pos_iff.2 g2
            have ho2 := oneK_len rows (lostL rows best j) j k
            have HC := Hid.mk hc0
            have HG3 := Hid.mk g3
            generalize oneK rows (lostL rows best j) j k = ones at *
            clear hc0 g1 g2 g3 hbt
            go_wp2_with fail
            refine HC.out.mono ?_
            rintro e w1 ⟨zv, ov, rfl, hz, ho, hb1⟩
            obtain ⟨az, cz, rfl⟩ := owns_slice hz
            obtain ⟨ao, co, rfl⟩ := owns_slice ho
            have HBus1 := Hid.mk (ownsRow_below HBus.out hb1)
            have HLo1 := Hid.mk (ownsRow_below HLo.out hb1)
            have HBel1 := Hid.mk (bl2 HBel.out hb1)
            generalize ones.length = lo at *
            have hq : ((lo : Int) == 0) = false := by rw [beq_eq_false_iff_ne]; omega
            clear hz ho hb1 HBus HLo HBel HC
            go_wp2_with (at_builtin; refine wpList_append_two rfl (.tmp 43) (.tmp 44) 28 rfl w.heap.size 5 j0 (.int .u8 0) 1 1 Tryd.underlying28 hj0 hy0 hy1 hy2 rfl (by decide) _ _ _ rfl (HBus1.out.alloc _) ⟨w1.heap.size, 0, none⟩ 1 1 [Value.int .u8 49] rfl rfl (by intro q u hq; match q, hq with | 0, hq => (simp at hq; subst hq; simp [Addr.add])) (by intro u hu; simp at hu; subst hu; rfl) (by decide) (by unfold maxLen; omega) (by omega) (by have := HBel1.out.size; simp; omega) ?_; intro v3 w3 hown3 hgrow3 hblk3)
            have hB3 : Below w.heap.size w w3 := Below.grown (HBel1.out.alloc HBel1.out.size _) hgrow3 (by have := HBel1.out.size; simp; omega) (fun q hq => (HBus1.out.lt q hq).1)
            have hL3 := owns_beside (HLo1.out.alloc _) hgrow3 (fun q hq e => HAp2.out q e.symm hq)
            have hA3 := apart_next (v := u6) HAp2.out (HLo1.out.alloc _) hblk3
            rw [show cellsOf (best.take j) ++ [Value.int .u8 49] = cellsOf (best.take (j + 1)) by rw [take_snocL best j hlt, cellsOf_append, HBit.out]; rfl] at hown3
            rw [← HG3.out] at hL3
            clear hgrow3 hblk3
            go_roundw
            case rel => exact ⟨j + 1, by omega, by go_num, Hid.mk hown3, Hid.mk hL3, Hid.mk hA3, Hid.mk hB3⟩
            case measure => simp [intOf]; omega
          · have HBit := Hid.mk hbt
            obtain ⟨g1, g2⟩ := zero_step HAp.out HL.out.1 hlt hbt
            rw [HR.out] at g1 g2
            have hz1 : 0 < (zerK rows (lostL rows best j) j k).length := List.length_pos_iff.2 g1
            have hz3 := zerK_len rows (lostL rows best j) j k
            have ho2 := oneK_len rows (lostL rows best j) j k
            have hin : ∀ x ∈ oneK rows (lostL rows best j) j k, ∃ i : Nat, i < k ∧ x = i := by
              intro x hx
              obtain ⟨i, h1, h2, _⟩ := (oneK_mem rows _ _ x k).1 hx
              exact ⟨i, h1, h2⟩
            have HC := Hid.mk hc0
            have HG2 := Hid.mk g2
            have HIN := Hid.mk hin
            generalize oneK rows (lostL rows best j) j k = ones at *
            generalize (zerK rows (lostL rows best j) j k).length = lz at *
            clear hc0 g1 g2 hbt hin
            go_wp2_with fail
            refine HC.out.mono ?_
            rintro e w1 ⟨zv, ov, rfl, hz, ho, hb1⟩
            obtain ⟨az, cz, rfl⟩ := owns_slice hz
            obtain ⟨ao, co, rfl⟩ := owns_slice ho
            have HBus1 := Hid.mk (ownsRow_below HBus.out hb1)
            have HLo1 := Hid.mk (ownsRow_below HLo.out hb1)
            have HBel1 := Hid.mk (bl2 HBel.out hb1)
            have HOn := Hid.mk ho
            have HGL := Hid.mk (show w.heap.size < wr.heap.size from (HLo.out.lt w.heap.size rfl).2)
            have HBL := Hid.mk (fun q hq => (HBus.out.lt q hq).2)
            obtain ⟨B0, hB0⟩ : ∃ B0 : Nat, B0 = wr.heap.size := ⟨_, rfl⟩
            rw [← hB0] at HOn HGL HBL
            clear hB0
            obtain ⟨lo, hlo⟩ : ∃ lo, lo = ones.length := ⟨_, rfl⟩
            rw [← hlo] at HOn ho2 HG2 ⊢
            have HLO := Hid.mk hlo
            have hq : (((lz : Int) + (lo : Int)) == 0) = false := by rw [beq_eq_false_iff_ne]; omega
            have hq2 : ((lz : Int) == 0) = false := by rw [beq_eq_false_iff_ne]; omega
            clear hlo hz ho hb1 HBus HLo HBel HC
            go_wp2_with (at_builtin; refine wpList_append_two rfl (.tmp 46) (.tmp 47) 28 rfl w.heap.size 5 j0 (.int .u8 0) 1 1 Tryd.underlying28 hj0 hy0 hy1 hy2 rfl (by decide) _ _ _ rfl (HBus1.out.alloc _) ⟨w1.heap.size, 0, none⟩ 1 1 [Value.int .u8 48] rfl rfl (by intro q u hq; match q, hq with | 0, hq => (simp at hq; subst hq; simp [Addr.add])) (by intro u hu; simp at hu; subst hu; rfl) (by decide) (by unfold maxLen; omega) (by omega) (by have := HBel1.out.size; simp; omega) ?_; intro v3 w3 hown3 hgrow3 hblk3)
            have hB3 : Below w.heap.size w w3 := Below.grown (HBel1.out.alloc HBel1.out.size _) hgrow3 (by have := HBel1.out.size; simp; omega) (fun q hq => (HBus1.out.lt q hq).1)
            have hL3 := owns_beside (HLo1.out.alloc _) hgrow3 (fun q hq e => HAp2.out q e.symm hq)
            have hA3 := apart_next (v := u6) HAp2.out (HLo1.out.alloc _) hblk3
            rw [show cellsOf (best.take j) ++ [Value.int .u8 48] = cellsOf (best.take (j + 1)) by rw [take_snocL best j hlt, cellsOf_append, HBit.out]; rfl] at hown3
            have HOn3 := Hid.mk (owns_beside (HOn.out.alloc _) hgrow3 (fun q hq e => by
              have h1 := HBL.out q e.symm
              have h2 := (HOn.out.lt q hq).1
              omega))
            have HB3 := Hid.mk hB3
            have HL3 := Hid.mk hL3
            have HA3 := Hid.mk hA3
            have HU3 := Hid.mk hown3
            clear hgrow3 hblk3 hB3 hL3 hA3 hown3 HOn HLo1 HBus1 HBel1
            go_loopw [51] (fun i wr3 => ∃ q : Nat, q ≤ lo ∧ i = .int .i64 q ∧ Hid (wr3.ownsRow w.heap.size 3 1 (.slice (some ⟨w.heap.size, 0, none⟩) k k) k (intC (giveK (lostL rows best j) j ones q))) ∧ Hid (wr3.ownsRow w.heap.size 5 1 v3 (j + 1) (cellsOf (best.take (j + 1)))) ∧ Hid (wr3.ownsRow B0 3 1 (.slice ao lo co) lo (intC ones)) ∧ Hid (Below w.heap.size w wr3)) (fun i _ => lo - (intOf i).toNat)
            case atStart => exact ⟨0, Nat.zero_le _, rfl, HL3, HU3, HOn3, HB3⟩
            case round =>
              clear HL3 HU3 HOn3 HB3
              obtain ⟨q, hqk, rfl, HLq, HUq, HOq, HBq⟩ := hrel
              by_cases hqlt : q < lo
              · obtain ⟨go, cgo, heq, hgo1, hgo2⟩ := owns_some HOq.out (by omega)
                simp only [Value.slice.injEq] at heq
                obtain ⟨rfl, -, rfl⟩ := heq
                have hqlt' : (q : Int) < (lo : Int) := by omega
                have hql : q < ones.length := by rw [← HLO.out]; exact hqlt
                obtain ⟨i, hik, hix⟩ := HIN.out ones[q] (List.getElem_mem hql)
                have c1 : wr.cell? ⟨go, q, none⟩ = some (.int .i64 i) := by
                  rw [HOq.out.cellAt q (by omega)]
                  simp [intC, hql, hix]
                have hLl : (intC (giveK (lostL rows best j) j ones q)).length = k := by rw [intC_length, giveK_len, lostL_len, HR.out]
                have hc3 := HLq.out.cellAt i (by omega)
                have hf3 := HLq.out.frozenAt i
                rw [List.getElem?_eq_getElem (by rw [hLl]; exact hik)] at hc3
                generalize (intC (giveK (lostL rows best j) j ones q))[i]'(by rw [hLl]; exact hik) = c3 at hc3
                have hst := HLq.out.stored i (.int .i64 (j : Int))
                rw [intC_set] at hst
                have hgs : (giveK (lostL rows best j) j ones q).set i (j : Int) = giveK (lostL rows best j) j ones (q + 1) := by
                  rw [giveK, show ones.getD q 0 = ones[q] by simp [List.getD, hql], hix, Int.toNat_natCast]
                rw [hgs] at hst
                have HLn := Hid.mk hst.1
                have HBn := Hid.mk (HBq.out.grown hst.2 HBq.out.size (fun q hq => by cases hq; exact Nat.le_refl _))
                have HUn := Hid.mk (owns_beside HUq.out hst.2 (fun x hx e => by
                  have e2 : x = w.heap.size := by simpa using e
                  subst e2
                  exact HA3.out _ hx rfl))
                have HOn := Hid.mk (owns_beside HOq.out hst.2 (fun x hx e => by
                  have e2 : x = w.heap.size := by simpa using e
                  have h1 := (HOq.out.lt x hx).1
                  have h2 := HGL.out
                  omega))
                have hik' : (i : Int) < (k : Int) := by omega
                clear hst hgs hLl hix hql HLq HUq HOq HBq hgo1 hgo2
                go_wp2_with fail
                go_roundw
                case rel => exact ⟨q + 1, by omega, by go_num, HLn, HUn, HOn, HBn⟩
                case measure => simp [intOf]; omega
              · have e : q = lo := by omega
                subst e
                have hLe := HLq.out
                rw [HG2.out] at hLe
                have HLe := Hid.mk hLe
                clear hLe
                go_wp2_with fail
                go_roundw
                case rel => exact ⟨j + 1, by omega, by go_num, HUq, HLe, HA3, HBq⟩
                case measure => simp [intOf]; omega
        · have e2 : j = best.length := by omega
          subst e2
          obtain ⟨g1, g2⟩ := none_left HAp.out HL.out.1
          rw [HR.out] at g1 g2
          rw [g1, g2] at hc0
          have HC := Hid.mk hc0
          clear hc0 g1 g2
          go_wp2_with fail
          refine HC.out.mono ?_
          rintro e w1 ⟨zv, ov, rfl, hz, ho, hb1⟩
          obtain ⟨az, cz, rfl⟩ := owns_slice hz
          obtain ⟨ao, co, rfl⟩ := owns_slice ho
          have HBus1 := Hid.mk (ownsRow_below HBus.out hb1)
          have HLo1 := Hid.mk (ownsRow_below HLo.out hb1)
          have HBel1 := Hid.mk (bl2 HBel.out hb1)
          have hcv := convert_own HBus1.out
          rw [List.take_length] at hcv
          have hfin := HLo1.out
          rw [lost_end] at hfin
          have HFin := Hid.mk hfin
          clear hfin hz ho hb1 HBus HLo HBel HC HBus1 HLo1
          go_wp2_with fail
          go_ret2
          exact ⟨rfl, HFin.out, HBel1.out⟩
end Bw
end Go.Proofs.YtfomempleaceiaaDoor
namespace Go.Proofs.YtfomempleaceiaaDoor
open Go.ChangeShapes Go.WideShapes Go.ChangeAt Go.RowKit
namespace Bw
open Bm

theorem sizeOfI (W : World) : (sizeOf 3).run Tryd.prog W = .ok 1 W := by
  have h : (Tryd.prog.info? 3).map (·.size) = some 1 := by kernel_rfl
  cases hi : Tryd.prog.info? 3 with
  | none => rw [hi] at h; cases h
  | some i =>
    rw [hi] at h
    have h1 : i.size = 1 := by simpa using h
    simp [sizeOf, typeInfo, hi, h1]
theorem sliceI (g n c l : Nat) (xs : List Int) (w : World) (hn : xs.length = n) (hl : l ≤ n) (hnc : n ≤ c) (hx : NumsAt w g 0 xs) :
    ∃ off, (∀ W, (Instr.slice 36 (.slice (some ⟨g, 0, none⟩) n c) (some (.int .i64 (l : Int))) none none).run Tryd.prog W = .ok (.slice (some ⟨g, off, none⟩) (n - l) (c - l)) W) ∧ NumsAt w g off (xs.drop l) := by
  have key : ∀ W, (Instr.slice 36 (.slice (some ⟨g, 0, none⟩) n c) (some (.int .i64 (l : Int))) none none).run Tryd.prog W = .ok (.slice (some ⟨g, if c = l then 0 else l, none⟩) (n - l) (c - l)) W := by
    intro W
    rw [run_slice_l W 36 (some ⟨g, 0, none⟩) n c (by kernel_rfl) .i64 (l : Int) (by omega) (by omega)]
    have e : Tryd.prog.elem 36 = 3 := by kernel_rfl
    rw [e, sizeOfI W]
    simp only [Result.andThen_ok, sliced, Int.toNat_natCast, Nat.mul_one, Option.map_some]
    by_cases h : c = l
    · rw [if_pos h, if_pos h]
    · rw [if_neg h, if_neg h]; simp [Addr.add]; exact fun h => h.symm
  refine ⟨_, key, ?_⟩
  intro i hi
  rw [List.length_drop] at hi
  by_cases h : c = l
  · omega
  · rw [if_neg h]
    have := hx (l + i) (by omega)
    rw [Nat.zero_add] at this
    rw [this]
    simp [List.getD]
set_option maxHeartbeats 2000000 in
set_option maxRecDepth 100000 in
theorem onlyI_any (g n c : Nat) (xs : List Int) (v : Int) (w : World) (hn : xs.length = n) (hm : n ≤ 6) (hnc : n ≤ c) (hx : NumsAt w g 0 xs) :
    Calls Tryd.prog 27 #[.slice (some ⟨g, 0, none⟩) n c, .int .i64 v] w fun e w' => e = .returned (.tuple #[.int .i64 (onlyN xs v), .int .i64 (onlyE xs v)]) ∧ w' = w := by
  have HI := Hid.mk (indexN g 0 n c xs v w hn (by omega) hx)
  have hge := idxG_ge xs v
  rw [hn] at hge
  by_cases h0 : idxG xs v < 0
  · have e1 : onlyE xs v = 8 := by unfold onlyE; rw [if_pos h0]
    have e2 : onlyN xs v = 0 := by unfold onlyN; rw [e1]; rfl
    rw [e1, e2]
    generalize idxG xs v = q at *
    clear e1 e2 hx hn hge
    go_enter Tryd.func27, Tryd.ntmps27
    go_wp2_with fail
    refine HI.out.mono ?_
    rintro e w1 ⟨rfl, hw⟩
    subst hw
    go_wp2_with fail
    go_ret2
    exact ⟨rfl, rfl⟩
  · obtain ⟨l, hl⟩ : ∃ l : Nat, idxG xs v = l := ⟨(idxG xs v).toNat, by omega⟩
    obtain ⟨off, hsl, hx2⟩ := sliceI g n c (l + 1) xs w hn (by omega) hnc hx
    have hc := containsN g off (n - (l + 1)) (c - (l + 1)) (xs.drop (l + 1)) v w (by rw [List.length_drop, hn]) (by omega) hx2
    have e1 : onlyE xs v = if v ∈ xs.drop (l + 1) then 9 else 0 := by
      unfold onlyE
      rw [if_neg h0, hl, Int.toNat_natCast]
      try (by_cases h : v ∈ xs.drop (l + 1) <;> simp [h])
    have e2 : onlyN xs v = if v ∈ xs.drop (l + 1) then 0 else (l : Int) := by
      unfold onlyN
      rw [e1, hl]
      by_cases h : v ∈ xs.drop (l + 1)
      · rw [if_pos h, if_pos h, if_neg (by omega)]
      · rw [if_neg h, if_neg h, if_pos rfl]
    rw [hl] at HI hge
    rw [e1, e2]
    have hsl' : ∀ W, (Instr.slice 36 (.slice (some ⟨g, 0, none⟩) n c) (some (.int .i64 ((l : Int) + 1))) none none).run Tryd.prog W = .ok (.slice (some ⟨g, off, none⟩) (n - (l + 1)) (c - (l + 1))) W := by
      intro W
      have := hsl W
      rw [show ((l + 1 : Nat) : Int) = (l : Int) + 1 by omega] at this
      exact this
    generalize n - (l + 1) = n2 at *
    generalize c - (l + 1) = c2 at *
    clear hsl hl h0 hx hx2 e1 e2
    by_cases h : v ∈ xs.drop (l + 1)
    · rw [if_pos h, if_pos h]
      have hd : decide (v ∈ xs.drop (l + 1)) = true := by simpa using h
      rw [hd] at hc
      have HC := Hid.mk hc
      clear hc h hd hn
      go_enter Tryd.func27, Tryd.ntmps27
      go_wp2_with fail
      refine HI.out.mono ?_
      rintro e w1 ⟨rfl, hw⟩
      subst hw
      go_wp2_with fail
      refine HC.out.mono ?_
      rintro e w2 ⟨rfl, hw2⟩
      subst hw2
      go_wp2_with fail
      go_ret2
      exact ⟨rfl, rfl⟩
    · rw [if_neg h, if_neg h]
      have hd : decide (v ∈ xs.drop (l + 1)) = false := by simpa using h
      rw [hd] at hc
      have HC := Hid.mk hc
      clear hc h hd hn
      go_enter Tryd.func27, Tryd.ntmps27
      go_wp2_with fail
      refine HI.out.mono ?_
      rintro e w1 ⟨rfl, hw⟩
      subst hw
      go_wp2_with fail
      refine HC.out.mono ?_
      rintro e w2 ⟨rfl, hw2⟩
      subst hw2
      go_wp2_with fail
      go_ret2
      exact ⟨rfl, rfl⟩
end Bw
end Go.Proofs.YtfomempleaceiaaDoor
namespace Go.Proofs.YtfomempleaceiaaDoor
open Go.ChangeShapes Go.WideShapes Go.ChangeAt Go.RowKit
namespace Bw
open Bm Cm
/-- the bits of frames; the least of them; where each of them parts from it -/
def rowsL (l : List FrV) : List (List UInt8) := l.map fun v => bitsL v.f
def bestL (l : List FrV) : List UInt8 := minL (rowsL l)
def difsL (l : List FrV) : List Int := (rowsL l).map fun r => dif r (bestL l)
/-- the error that Send tells -/
def sendE (l : List FrV) : Int := if 6 < l.length then 2 else if l.length = 0 then 8 else if firE (l.map (·.f)) ≠ 0 then firE (l.map (·.f)) else onlyE (difsL l) (-1)
theorem results_four (f : Func) (tmps : Array Value) (P : Program) (w : World) (a b c d : Nat) (h : f.results = #[.tmp a, .tmp b, .tmp c, .tmp d]) :
    (results f tmps).run P w = .ok (.tuple #[tmps.getD a undef, tmps.getD b undef, tmps.getD c undef, tmps.getD d undef]) w := by
  simp [results, h]
theorem rows_facts (l : List FrV) (hz : firE (l.map (·.f)) = 0) (hl : l.length ≠ 0) : (∀ r ∈ rowsL l, r.length ≤ 900) ∧ (∀ r ∈ rowsL l, rowB r = true) ∧ Apart (rowsL l) ∧ Least (rowsL l) (bestL l) := by
  have hz' := (firE_zero _).1 hz
  have hall : ∀ v ∈ l, frE v.f = 0 := fun v hv => hz' v.f (List.mem_map.2 ⟨v, hv, rfl⟩)
  refine ⟨fun r hr => ?_, fun r hr => ?_, ?_, ?_⟩
  · obtain ⟨v, hv, rfl⟩ := List.mem_map.1 hr
    have h1 := bitsL_len v.f
    have h2 := preL_len v.f (hall v hv)
    omega
  · obtain ⟨v, hv, rfl⟩ := List.mem_map.1 hr
    exact bitsL_row v.f
  · have := rows_apart (l.map (·.f)) (fun f hf => hz' f hf)
    rw [List.map_map] at this
    exact this
  · refine minL_least (rowsL l) (fun h => hl ?_)
    have := congrArg List.length h
    simpa [rowsL] using this
set_option maxHeartbeats 2000000 in
theorem send_many (a : Option Addr) (n cap : Nat) (w : World) (h : 6 < n) :
    Calls Tryd.prog 12 #[.slice a n cap] w fun e w' => e = .returned (.tuple #[.string ⟨#[]⟩, .int .i64 0, .slice none 0 0, .int .i64 2]) ∧ w' = w := by
  have h2 : (6 : Int) < (n : Int) := by omega
  go_enter Tryd.func12, Tryd.ntmps12
  go_wp2_with fail
  refine bodyPost_ret (results_four _ _ _ _ 2 3 4 5 rfl) rfl ?_
  exact ⟨rfl, rfl⟩
set_option maxHeartbeats 2000000 in
theorem send_none (a : Option Addr) (n cap : Nat) (w : World) (h : n = 0) :
    Calls Tryd.prog 12 #[.slice a n cap] w fun e w' => e = .returned (.tuple #[.string ⟨#[]⟩, .int .i64 0, .slice none 0 0, .int .i64 8]) ∧ w' = w := by
  subst h
  go_enter Tryd.func12, Tryd.ntmps12
  go_wp2_with fail
  refine bodyPost_ret (results_four _ _ _ _ 2 3 4 5 rfl) rfl ?_
  exact ⟨rfl, rfl⟩
set_option maxHeartbeats 2000000 in
theorem send_bad (a : Option Addr) (n cap : Nat) (l : List FrV) (w : World) (hS : SizesAt w) (hR : RulesAt w) (hF : IsFrames w a n cap l) (h0 : 0 < n) (h6 : n ≤ 6) (hz : firE (l.map (·.f)) ≠ 0) :
    Calls Tryd.prog 12 #[.slice a n cap] w fun e w' => e = .returned (.tuple #[.string ⟨#[]⟩, .int .i64 0, .slice none 0 0, .int .i64 (firE (l.map (·.f)))]) ∧ Below w.heap.size w w' := by
  have ha := (eachBits_any a n cap l w hS hR hF h6).mono (fun _ _ h => And.intro (h.1 hz) h.2.2)
  have HE := Hid.mk ha
  have hne : (firE (l.map (·.f)) != 0) = true := by simpa using hz
  have h0' : ((n : Int) == 0) = false := by rw [beq_eq_false_iff_ne]; omega
  have h6' : (n : Int) ≤ 6 := by omega
  generalize firE (l.map (·.f)) = ce at *
  clear ha hS hR hF hz
  go_enter Tryd.func12, Tryd.ntmps12
  go_wp2_with fail
  refine HE.out.mono ?_
  rintro e w1 ⟨rfl, hb1⟩
  go_wp2_with fail
  refine bodyPost_ret (results_four _ _ _ _ 2 3 4 5 rfl) rfl ?_
  exact ⟨rfl, hb1⟩
theorem owns_lower {w : World} {b1 b2 : Nat} {e : TypeId} {size : Nat} {v : Value} {n : Nat} {xs : List Value} (h : w.ownsRow b1 e size v n xs) (hb : b2 ≤ b1) : w.ownsRow b2 e size v n xs := by
  obtain ⟨h1, h2⟩ := h
  refine ⟨h1, ?_⟩
  rcases h2 with h2 | ⟨g, cap, cur, hv, hg, r⟩
  · exact Or.inl h2
  · exact Or.inr ⟨g, cap, cur, hv, Nat.le_trans hb hg, r⟩
set_option maxHeartbeats 4000000 in
theorem send_twice (a : Option Addr) (n cap : Nat) (l : List FrV) (w : World) (hS : SizesAt w) (hR : RulesAt w) (hF : IsFrames w a n cap l) (h0 : 0 < n) (h6 : n ≤ 6) (hz : firE (l.map (·.f)) = 0) (hO : onlyE (difsL l) (-1) ≠ 0) :
    Calls Tryd.prog 12 #[.slice a n cap] w fun e w' => e = .returned (.tuple #[.string ⟨#[]⟩, .int .i64 0, .slice none 0 0, .int .i64 (onlyE (difsL l) (-1))]) ∧ Below w.heap.size w w' := by
  obtain ⟨hlen, hrow, hA, hL⟩ := rows_facts l hz (by rw [hF.len]; omega)
  have hrl : (rowsL l).length = n := by rw [rowsL, List.length_map, hF.len]
  have hdl : (difsL l).length = n := by rw [difsL, List.length_map, hrl]
  have ha := (eachBits_any a n cap l w hS hR hF h6).mono (fun _ _ h => And.intro (h.2.1 hz) h.2.2)
  have hc := fun gr cr W hX => contest_any gr cr n (rowsL l) (bestL l) W hrl (by omega) h6 hlen hrow hA hL hX
  have ho := fun g W hX => onlyI_any g n n (difsL l) (-1) W hdl h6 (Nat.le_refl _) hX
  have hN : onlyN (difsL l) (-1) = 0 := by unfold onlyN; rw [if_neg hO]
  have HRO := Hid.mk (show strC (l.map fun v => bitsL v.f) = strC (rowsL l) from rfl)
  have HDI := Hid.mk (show intC ((rowsL l).map fun r => dif r (bestL l)) = intC (difsL l) from rfl)
  rw [hN] at ho
  have hne : (onlyE (difsL l) (-1) != 0) = true := by simpa using hO
  have h0' : ((n : Int) == 0) = false := by rw [beq_eq_false_iff_ne]; omega
  have h6' : (n : Int) ≤ 6 := by omega
  generalize onlyE (difsL l) (-1) = ce at *
  have HE := Hid.mk ha
  have HC := Hid.mk hc
  have HO := Hid.mk ho
  clear ha hc ho hS hR hF hlen hrow hA hL hrl hdl hN hO hz
  generalize ByteArray.mk (bestL l).toArray = BT at *
  go_enter Tryd.func12, Tryd.ntmps12
  go_wp2_with fail
  refine HE.out.mono ?_
  rintro e w1 ⟨⟨rv, rfl, hown⟩, hb1⟩
  rw [HRO.out] at hown
  obtain ⟨gr, cr, rfl, -, -⟩ := owns_some hown h0
  have HX := Hid.mk (strs_of hown)
  have HB1 := Hid.mk hb1
  clear hown hb1
  go_wp2_with fail
  refine (HC.out _ _ _ HX.out).mono ?_
  rintro e w2 ⟨rfl, hown2, hb2⟩
  rw [HDI.out] at hown2
  have HY := Hid.mk (nums_of hown2)
  have HW2 := Hid.mk hown2
  have HB2 := Hid.mk (bl2 HB1.out hb2)
  have HSZ := Hid.mk HB1.out.size
  clear hown2 hb2
  go_wp2_with fail
  refine (HO.out _ _ HY.out).mono ?_
  rintro e w3 ⟨rfl, hw3⟩
  subst hw3
  go_wp2_with fail
  refine bodyPost_ret (results_four _ _ _ _ 2 3 4 5 rfl) rfl ?_
  exact ⟨rfl, HB2.out⟩
set_option maxHeartbeats 4000000 in
theorem send_ok (a : Option Addr) (n cap : Nat) (l : List FrV) (w : World) (hS : SizesAt w) (hR : RulesAt w) (hF : IsFrames w a n cap l) (h0 : 0 < n) (h6 : n ≤ 6) (hz : firE (l.map (·.f)) = 0) (hO : onlyE (difsL l) (-1) = 0) :
    Calls Tryd.prog 12 #[.slice a n cap] w fun e w' => ∃ g, e = .returned (.tuple #[.string ⟨(bestL l).toArray⟩, .int .i64 (idxG (difsL l) (-1)), .slice (some ⟨g, 0, none⟩) n n, .int .i64 0]) ∧ w'.ownsRow w.heap.size 3 1 (.slice (some ⟨g, 0, none⟩) n n) n (intC (difsL l)) ∧ Below w.heap.size w w' := by
  obtain ⟨hlen, hrow, hA, hL⟩ := rows_facts l hz (by rw [hF.len]; omega)
  have hrl : (rowsL l).length = n := by rw [rowsL, List.length_map, hF.len]
  have hdl : (difsL l).length = n := by rw [difsL, List.length_map, hrl]
  have ha := (eachBits_any a n cap l w hS hR hF h6).mono (fun _ _ h => And.intro (h.2.1 hz) h.2.2)
  have hc := fun gr cr W hX => contest_any gr cr n (rowsL l) (bestL l) W hrl (by omega) h6 hlen hrow hA hL hX
  have ho := fun g W hX => onlyI_any g n n (difsL l) (-1) W hdl h6 (Nat.le_refl _) hX
  have hN : onlyN (difsL l) (-1) = idxG (difsL l) (-1) := by unfold onlyN; rw [if_pos hO]
  have HRO := Hid.mk (show strC (l.map fun v => bitsL v.f) = strC (rowsL l) from rfl)
  have HDI := Hid.mk (show intC ((rowsL l).map fun r => dif r (bestL l)) = intC (difsL l) from rfl)
  rw [hN] at ho
  rw [hO] at ho
  have h0' : ((n : Int) == 0) = false := by rw [beq_eq_false_iff_ne]; omega
  have h6' : (n : Int) ≤ 6 := by omega
  generalize idxG (difsL l) (-1) = ci at *
  have HE := Hid.mk ha
  have HC := Hid.mk hc
  have HO := Hid.mk ho
  clear ha hc ho hS hR hF hlen hrow hA hL hrl hdl hN hO hz
  generalize ByteArray.mk (bestL l).toArray = BT at *
  go_enter Tryd.func12, Tryd.ntmps12
  go_wp2_with fail
  refine HE.out.mono ?_
  rintro e w1 ⟨⟨rv, rfl, hown⟩, hb1⟩
  rw [HRO.out] at hown
  obtain ⟨gr, cr, rfl, -, -⟩ := owns_some hown h0
  have HX := Hid.mk (strs_of hown)
  have HB1 := Hid.mk hb1
  clear hown hb1
  go_wp2_with fail
  refine (HC.out _ _ _ HX.out).mono ?_
  rintro e w2 ⟨rfl, hown2, hb2⟩
  rw [HDI.out] at hown2
  have HY := Hid.mk (nums_of hown2)
  have HW2 := Hid.mk hown2
  have HB2 := Hid.mk (bl2 HB1.out hb2)
  have HSZ := Hid.mk HB1.out.size
  clear hown2 hb2
  go_wp2_with fail
  refine (HO.out _ _ HY.out).mono ?_
  rintro e w3 ⟨rfl, hw3⟩
  subst hw3
  go_wp2_with fail
  refine bodyPost_ret (results_four _ _ _ _ 2 3 4 5 rfl) rfl ?_
  exact ⟨_, rfl, owns_lower HW2.out HSZ.out, HB2.out⟩
/-- Send of any frames -/
theorem send_any (a : Option Addr) (n cap : Nat) (l : List FrV) (w : World) (hS : SizesAt w) (hR : RulesAt w) (hF : IsFrames w a n cap l) :
    Calls Tryd.prog 12 #[.slice a n cap] w fun e w' => (sendE l ≠ 0 → e = .returned (.tuple #[.string ⟨#[]⟩, .int .i64 0, .slice none 0 0, .int .i64 (sendE l)])) ∧
      (sendE l = 0 → ∃ g, e = .returned (.tuple #[.string ⟨(bestL l).toArray⟩, .int .i64 (idxG (difsL l) (-1)), .slice (some ⟨g, 0, none⟩) n n, .int .i64 0]) ∧ w'.ownsRow w.heap.size 3 1 (.slice (some ⟨g, 0, none⟩) n n) n (intC (difsL l))) ∧ Below w.heap.size w w' := by
  have hl := hF.len
  by_cases h6 : 6 < n
  · have e1 : sendE l = 2 := by unfold sendE; rw [if_pos (by omega)]
    rw [e1]
    refine (send_many a n cap w h6).mono ?_
    rintro e w1 ⟨rfl, rfl⟩
    exact ⟨fun _ => rfl, fun h => absurd h (by decide), Below.refl _ _⟩
  · by_cases h0 : n = 0
    · have e1 : sendE l = 8 := by unfold sendE; rw [if_neg (by omega), if_pos (by omega)]
      rw [e1]
      refine (send_none a n cap w h0).mono ?_
      rintro e w1 ⟨rfl, rfl⟩
      exact ⟨fun _ => rfl, fun h => absurd h (by decide), Below.refl _ _⟩
    · by_cases hz : firE (l.map (·.f)) = 0
      · have e1 : sendE l = onlyE (difsL l) (-1) := by unfold sendE; rw [if_neg (by omega), if_neg (by omega), if_neg (fun h => h hz)]
        rw [e1]
        by_cases hO : onlyE (difsL l) (-1) = 0
        · refine (send_ok a n cap l w hS hR hF (by omega) (by omega) hz hO).mono ?_
          rintro e w1 ⟨g, h1, h2, h3⟩
          exact ⟨fun h => absurd hO h, fun _ => ⟨g, h1, h2⟩, h3⟩
        · refine (send_twice a n cap l w hS hR hF (by omega) (by omega) hz hO).mono ?_
          rintro e w1 ⟨h1, h3⟩
          exact ⟨fun _ => h1, fun h => absurd h hO, h3⟩
      · have e1 : sendE l = firE (l.map (·.f)) := by unfold sendE; rw [if_neg (by omega), if_neg (by omega), if_pos hz]
        rw [e1]
        refine (send_bad a n cap l w hS hR hF (by omega) (by omega) hz).mono ?_
        rintro e w1 ⟨h1, h3⟩
        exact ⟨fun _ => h1, fun h => absurd h hz, h3⟩
end Bw
end Go.Proofs.YtfomempleaceiaaDoor
