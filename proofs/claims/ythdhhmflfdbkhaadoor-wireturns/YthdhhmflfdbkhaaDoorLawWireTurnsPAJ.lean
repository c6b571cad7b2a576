/- Joined out of our texts: WSend2, OnlyInt, TchKit, TakeV, StuffTake. -/
import Derived.Test.YthdhhmflfdbkhaaDoorLawWireTurnsPAI
import Derived.Test.YthdhhmflfdbkhaaDoorLawWireTurnsPAA
import Derived.Test.YthdhhmflfdbkhaaDoorLawWireTurnsPAF
import Derived.Test.YthdhhmflfdbkhaaDoorLawWireTurnsPAB
import Derived.Test.YthdhhmflfdbkhaaDoorLawWireTurnsPAC
import Derived.Test.YthdhhmflfdbkhaaDoorLawWireTurnsPAH
/- What is on the bus, and who gives way where: wire.contest. -/
namespace Go.Proofs.YthdhhmflfdbkhaaDoor
open Go.ChangeShapes Go.WideShapes Go.ChangeAt Go.RowKit
namespace Bw
open Bm

theorem owns_slice {w : World} {base : Nat} {e : TypeId} {size : Nat} {v : Value} {n : Nat} {xs : List Value} (h : w.ownsRow base e size v n xs) : ∃ a cap, v = .slice a n cap := by
  rcases h.2 with ⟨rfl, rfl⟩ | ⟨g, cap, cur, rfl, -⟩
  · exact ⟨_, _, rfl⟩
  · exact ⟨_, _, rfl⟩
theorem owns_some {w : World} {base : Nat} {e : TypeId} {size : Nat} {v : Value} {n : Nat} {xs : List Value} (h : w.ownsRow base e size v n xs) (h0 : 0 < n) : ∃ g cap, v = .slice (some ⟨g, 0, none⟩) n cap ∧ base ≤ g ∧ g < w.heap.size := by
  rcases h.2 with ⟨rfl, rfl⟩ | ⟨g, cap, cur, rfl, hb, hg, -⟩
  · omega
  · exact ⟨_, _, rfl, hb, lt_of_block hg⟩
theorem nums_of {w : World} {base g n cap : Nat} {l : List Int} (h : w.ownsRow base 3 1 (.slice (some ⟨g, 0, none⟩) n cap) n (intC l)) : NumsAt w g 0 l := by
  intro i hi
  have hl : (intC l).length = n * 1 := h.1
  rw [intC_length] at hl
  rw [Nat.zero_add, h.cellAt i (by omega)]
  simp [intC, List.getD, hi]
theorem intC_set (l : List Int) (i : Nat) (x : Int) : (intC l).set i (.int .i64 x) = intC (l.set i x) := by
  unfold intC; rw [List.map_set]
/-- so many set to -1 -/
def fillK (n k : Nat) : List Int := List.replicate k (-1) ++ List.replicate (n - k) 0
theorem fillK_len (n k : Nat) (h : k ≤ n) : (fillK n k).length = n := by simp [fillK]; omega
theorem fillK_set (n k : Nat) (h : k < n) : (fillK n k).set k (-1) = fillK n (k + 1) := by
  unfold fillK
  rw [List.set_append_right _ _ (by simp)]
  simp only [List.length_replicate, Nat.sub_self]
  obtain ⟨m, hm⟩ : ∃ m, n - k = m + 1 := ⟨n - k - 1, by omega⟩
  rw [hm, show n - (k + 1) = m by omega, List.replicate_succ, List.set_cons_zero, List.replicate_succ', List.append_assoc]
  rfl

set_option maxHeartbeats 8000000 in
set_option maxRecDepth 100000 in
theorem contest_any (gr cr n : Nat) (rows : List (List UInt8)) (best : List UInt8) (w : World) (hr : rows.length = n) (h1 : 1 ≤ n) (hn : n ≤ 6) (hlen : ∀ r ∈ rows, r.length ≤ 900) (hrow : ∀ r ∈ rows, rowB r = true) (hA : Apart rows) (hL : Least rows best) (hX : StrsAt w gr 0 rows) :
    Calls Tryd.prog 26 #[.slice (some ⟨gr, 0, none⟩) n cr] w fun e w' => e = .returned (.tuple #[.string ⟨best.toArray⟩, .slice (some ⟨w.heap.size, 0, none⟩) n n]) ∧
      w'.ownsRow w.heap.size 3 1 (.slice (some ⟨w.heap.size, 0, none⟩) n n) n (intC (rows.map fun r => dif r best)) ∧ Below w.heap.size w w' := by
  obtain ⟨i0, hi, hz0, hz1, hz2⟩ := info_parts info_int
  obtain ⟨j0, hj0, hy0, hy1, hy2⟩ := info_parts info_u8
  have HS := Hid.mk (fun W (lost : List Int) (at_ : Nat) (hl : lost.length = n) (hW : StrsAt W gr 0 rows) (hY : NumsAt W w.heap.size 0 lost) => senders_any gr cr w.heap.size n n at_ rows lost W hr hl hn (fun r hr => Nat.le_trans (hlen r hr) (by omega)) hW hY)
  have HX := Hid.mk hX
  have HR := Hid.mk hr
  have HLN := Hid.mk hlen
  have HRW := Hid.mk hrow
  have HAp := Hid.mk hA
  have HL := Hid.mk hL
  have hbl : best.length ≤ 900 := hlen best hL.1
  clear hX hr hlen hrow hA hL
  go_enter Tryd.func26, Tryd.ntmps26
  go_wp2_with (at_make; refine wpList_make_full _ rfl (.tmp 13) (.tmp 13) 36 rfl w.heap.size 3 i0 (.int .i64 0) 1 Tryd.underlying36 hi hz0 hz1 .i64 .i64 _ _ n rfl rfl (by omega) (by omega) (by rw [hz2]; omega) (by unfold maxLen; omega) (Nat.le_refl _) ?_; intro w2 hown hgrow)
  have hown0 : w2.ownsRow w.heap.size 3 1 (.slice (some ⟨w.heap.size, 0, none⟩) n n) n (intC (fillK n 0)) := by
    have e : intC (fillK n 0) = (madeCells (Value.int .i64 0).cells (n * 1)).toList := by
      rw [Nat.mul_one]
      show intC (fillK n 0) = (madeCells #[.int .i64 0] n).toList
      rw [toList_madeCells_one]
      simp [fillK, intC]
    rw [e]; exact hown
  have hb2 : Below w.heap.size w w2 := Below.grown (Below.refl _ _) hgrow (Nat.le_refl _) (fun q hq => by cases hq)
  clear hown hgrow
  go_loopw [17] (fun i wr => ∃ k : Nat, k ≤ n ∧ i = .int .i64 k ∧ wr.ownsRow w.heap.size 3 1 (.slice (some ⟨w.heap.size, 0, none⟩) n n) n (intC (fillK n k)) ∧ Below w.heap.size w wr) (fun i _ => n - (intOf i).toNat)
  case atStart => exact ⟨0, Nat.zero_le _, rfl, hown0, hb2⟩
  case round =>
    clear hown0 hb2
    obtain ⟨k, hk, rfl, hown, hbel⟩ := hrel
    by_cases hlt : k < n
    · have hlt' : (k : Int) < (n : Int) := by omega
      have hc3 := hown.cellAt k (by omega)
      have hf3 := hown.frozenAt k
      rw [show (intC (fillK n k))[k]? = some ((intC (fillK n k))[k]'(by rw [intC_length, fillK_len n k hk]; exact hlt)) from List.getElem?_eq_getElem _] at hc3
      generalize (intC (fillK n k))[k]'(by rw [intC_length, fillK_len n k hk]; exact hlt) = c3 at hc3
      have hst := hown.stored k (.int .i64 (-1))
      rw [intC_set, fillK_set n k hlt] at hst
      have HO4 := Hid.mk hst.1
      have HB4 := Hid.mk (hbel.grown hst.2 hbel.size (fun q hq => by cases hq; exact Nat.le_refl _))
      clear hown hst
      go_wp2_with fail
      go_roundw
      case rel => exact ⟨k + 1, by omega, by go_num, HO4.out, HB4.out⟩
      case measure => simp [intOf]; omega
    · have e : k = n := by omega
      subst e
      rw [show fillK k k = lostL rows best 0 by rw [lost_start, HR.out]; simp [fillK]] at hown
      have HL0 := Hid.mk hown
      have HB0 := Hid.mk hbel
      clear hown hbel
      go_wp2_with fail
      go_loopw [6, 24] (fun r i wr => ∃ j : Nat, j ≤ best.length ∧ i = .int .i64 j ∧ Hid (wr.ownsRow w.heap.size 5 1 r j (cellsOf (best.take j))) ∧ Hid (wr.ownsRow w.heap.size 3 1 (.slice (some ⟨w.heap.size, 0, none⟩) k k) k (intC (lostL rows best j))) ∧ Hid (ApartV r (.slice (some ⟨w.heap.size, 0, none⟩) k k)) ∧ Hid (Below w.heap.size w wr)) (fun _ i _ => 1000 - (intOf i).toNat)
      case atStart => exact ⟨0, Nat.zero_le _, rfl, Hid.mk (by simpa [cellsOf] using World.ownsRow_nil _ _ _ _), HL0, Hid.mk (fun q hq => by cases hq), HB0⟩
      case round =>
        obtain ⟨j, hj, rfl, HBus, HLo, HAp2, HBel⟩ := hrel
        have hj1000 : (j : Int) < 1000 := by omega
        have hc0 := HS.out wr (lostL rows best j) j (by rw [lostL_len, HR.out]) (fun i hi => cell_kept HBel.out (HX.out i hi)) (nums_of HLo.out)
        by_cases hlt : j < best.length
        · have hbt : best.getD j 0 = 49 ∨ best.getD j 0 = 48 := by
            have hb : bit (best.getD j 0) = true := by
              rw [List.getD, List.getElem?_eq_getElem hlt, Option.getD_some]
              exact List.all_eq_true.1 (HRW.out best HL.out.1) _ (List.getElem_mem hlt)
            rcases (bit_iff _).1 hb with h | h
            · right; exact UInt8.toNat_inj.1 (show (best.getD j 0).toNat = 48 by omega)
            · left; exact UInt8.toNat_inj.1 (show (best.getD j 0).toNat = 49 by omega)
          rcases hbt with hbt | hbt
          · have HBit := Hid.mk hbt
            obtain ⟨g1, g2, g3⟩ := one_step HAp.out HRW.out HL.out hlt hbt
            rw [HR.out] at g1 g2
            rw [g1] at hc0
            have ho1 : 0 < (oneK rows (lostL rows best j) j k).length := List.length_pos_iff.2 g2
            have ho2 := oneK_len rows (lostL rows best j) j k
            have HC := Hid.mk hc0
            have HG3 := Hid.mk g3
            generalize oneK rows (lostL rows best j) j k = ones at *
            clear hc0 g1 g2 g3 hbt
            go_wp2_with fail
            refine HC.out.mono ?_
            rintro e w1 ⟨zv, ov, rfl, hz, ho, hb1⟩
            obtain ⟨az, cz, rfl⟩ := owns_slice hz
            obtain ⟨ao, co, rfl⟩ := owns_slice ho
            have HBus1 := Hid.mk (ownsRow_below HBus.out hb1)
            have HLo1 := Hid.mk (ownsRow_below HLo.out hb1)
            have HBel1 := Hid.mk (bl2 HBel.out hb1)
            generalize ones.length = lo at *
            have hq : ((lo : Int) == 0) = false := by rw [beq_eq_false_iff_ne]; omega
            clear hz ho hb1 HBus HLo HBel HC
            go_wp2_with (at_builtin; refine wpList_append_two rfl (.tmp 43) (.tmp 44) 28 rfl w.heap.size 5 j0 (.int .u8 0) 1 1 Tryd.underlying28 hj0 hy0 hy1 hy2 rfl (by decide) _ _ _ rfl (HBus1.out.alloc _) ⟨w1.heap.size, 0, none⟩ 1 1 [Value.int .u8 49] rfl rfl (by intro q u hq; match q, hq with | 0, hq => (simp at hq; subst hq; simp [Addr.add])) (by intro u hu; simp at hu; subst hu; rfl) (by decide) (by unfold maxLen; omega) (by omega) (by have := HBel1.out.size; simp; omega) ?_; intro v3 w3 hown3 hgrow3 hblk3)
            have hB3 : Below w.heap.size w w3 := Below.grown (HBel1.out.alloc HBel1.out.size _) hgrow3 (by have := HBel1.out.size; simp; omega) (fun q hq => (HBus1.out.lt q hq).1)
            have hL3 := owns_beside (HLo1.out.alloc _) hgrow3 (fun q hq e => HAp2.out q e.symm hq)
            have hA3 := apart_next (v := u6) HAp2.out (HLo1.out.alloc _) hblk3
            rw [show cellsOf (best.take j) ++ [Value.int .u8 49] = cellsOf (best.take (j + 1)) by rw [take_snocL best j hlt, cellsOf_append, HBit.out]; rfl] at hown3
            rw [← HG3.out] at hL3
            clear hgrow3 hblk3
            go_roundw
            case rel => exact ⟨j + 1, by omega, by go_num, Hid.mk hown3, Hid.mk hL3, Hid.mk hA3, Hid.mk hB3⟩
            case measure => simp [intOf]; omega
          · have HBit := Hid.mk hbt
            obtain ⟨g1, g2⟩ := zero_step HAp.out HL.out.1 hlt hbt
            rw [HR.out] at g1 g2
            have hz1 : 0 < (zerK rows (lostL rows best j) j k).length := List.length_pos_iff.2 g1
            have hz3 := zerK_len rows (lostL rows best j) j k
            have ho2 := oneK_len rows (lostL rows best j) j k
            have hin : ∀ x ∈ oneK rows (lostL rows best j) j k, ∃ i : Nat, i < k ∧ x = i := by
              intro x hx
              obtain ⟨i, h1, h2, _⟩ := (oneK_mem rows _ _ x k).1 hx
              exact ⟨i, h1, h2⟩
            have HC := Hid.mk hc0
            have HG2 := Hid.mk g2
            have HIN := Hid.mk hin
            generalize oneK rows (lostL rows best j) j k = ones at *
            generalize (zerK rows (lostL rows best j) j k).length = lz at *
            clear hc0 g1 g2 hbt hin
            go_wp2_with fail
            refine HC.out.mono ?_
            rintro e w1 ⟨zv, ov, rfl, hz, ho, hb1⟩
            obtain ⟨az, cz, rfl⟩ := owns_slice hz
            obtain ⟨ao, co, rfl⟩ := owns_slice ho
            have HBus1 := Hid.mk (ownsRow_below HBus.out hb1)
            have HLo1 := Hid.mk (ownsRow_below HLo.out hb1)
            have HBel1 := Hid.mk (bl2 HBel.out hb1)
            have HOn := Hid.mk ho
            have HGL := Hid.mk (show w.heap.size < wr.heap.size from (HLo.out.lt w.heap.size rfl).2)
            have HBL := Hid.mk (fun q hq => (HBus.out.lt q hq).2)
            obtain ⟨B0, hB0⟩ : ∃ B0 : Nat, B0 = wr.heap.size := ⟨_, rfl⟩
            rw [← hB0] at HOn HGL HBL
            clear hB0
            obtain ⟨lo, hlo⟩ : ∃ lo, lo = ones.length := ⟨_, rfl⟩
            rw [← hlo] at HOn ho2 HG2 ⊢
            have HLO := Hid.mk hlo
            have hq : (((lz : Int) + (lo : Int)) == 0) = false := by rw [beq_eq_false_iff_ne]; omega
            have hq2 : ((lz : Int) == 0) = false := by rw [beq_eq_false_iff_ne]; omega
            clear hlo hz ho hb1 HBus HLo HBel HC
            go_wp2_with (at_builtin; refine wpList_append_two rfl (.tmp 46) (.tmp 47) 28 rfl w.heap.size 5 j0 (.int .u8 0) 1 1 Tryd.underlying28 hj0 hy0 hy1 hy2 rfl (by decide) _ _ _ rfl (HBus1.out.alloc _) ⟨w1.heap.size, 0, none⟩ 1 1 [Value.int .u8 48] rfl rfl (by intro q u hq; match q, hq with | 0, hq => (simp at hq; subst hq; simp [Addr.add])) (by intro u hu; simp at hu; subst hu; rfl) (by decide) (by unfold maxLen; omega) (by omega) (by have := HBel1.out.size; simp; omega) ?_; intro v3 w3 hown3 hgrow3 hblk3)
            have hB3 : Below w.heap.size w w3 := Below.grown (HBel1.out.alloc HBel1.out.size _) hgrow3 (by have := HBel1.out.size; simp; omega) (fun q hq => (HBus1.out.lt q hq).1)
            have hL3 := owns_beside (HLo1.out.alloc _) hgrow3 (fun q hq e => HAp2.out q e.symm hq)
            have hA3 := apart_next (v := u6) HAp2.out (HLo1.out.alloc _) hblk3
            rw [show cellsOf (best.take j) ++ [Value.int .u8 48] = cellsOf (best.take (j + 1)) by rw [take_snocL best j hlt, cellsOf_append, HBit.out]; rfl] at hown3
            have HOn3 := Hid.mk (owns_beside (HOn.out.alloc _) hgrow3 (fun q hq e => by
              have h1 := HBL.out q e.symm
              have h2 := (HOn.out.lt q hq).1
              omega))
            have HB3 := Hid.mk hB3
            have HL3 := Hid.mk hL3
            have HA3 := Hid.mk hA3
            have HU3 := Hid.mk hown3
            clear hgrow3 hblk3 hB3 hL3 hA3 hown3 HOn HLo1 HBus1 HBel1
            go_loopw [51] (fun i wr3 => ∃ q : Nat, q ≤ lo ∧ i = .int .i64 q ∧ Hid (wr3.ownsRow w.heap.size 3 1 (.slice (some ⟨w.heap.size, 0, none⟩) k k) k (intC (giveK (lostL rows best j) j ones q))) ∧ Hid (wr3.ownsRow w.heap.size 5 1 v3 (j + 1) (cellsOf (best.take (j + 1)))) ∧ Hid (wr3.ownsRow B0 3 1 (.slice ao lo co) lo (intC ones)) ∧ Hid (Below w.heap.size w wr3)) (fun i _ => lo - (intOf i).toNat)
            case atStart => exact ⟨0, Nat.zero_le _, rfl, HL3, HU3, HOn3, HB3⟩
            case round =>
              clear HL3 HU3 HOn3 HB3
              obtain ⟨q, hqk, rfl, HLq, HUq, HOq, HBq⟩ := hrel
              by_cases hqlt : q < lo
              · obtain ⟨go, cgo, heq, hgo1, hgo2⟩ := owns_some HOq.out (by omega)
                simp only [Value.slice.injEq] at heq
                obtain ⟨rfl, -, rfl⟩ := heq
                have hqlt' : (q : Int) < (lo : Int) := by omega
                have hql : q < ones.length := by rw [← HLO.out]; exact hqlt
                obtain ⟨i, hik, hix⟩ := HIN.out ones[q] (List.getElem_mem hql)
                have c1 : wr.cell? ⟨go, q, none⟩ = some (.int .i64 i) := by
                  rw [HOq.out.cellAt q (by omega)]
                  simp [intC, hql, hix]
                have hLl : (intC (giveK (lostL rows best j) j ones q)).length = k := by rw [intC_length, giveK_len, lostL_len, HR.out]
                have hc3 := HLq.out.cellAt i (by omega)
                have hf3 := HLq.out.frozenAt i
                rw [List.getElem?_eq_getElem (by rw [hLl]; exact hik)] at hc3
                generalize (intC (giveK (lostL rows best j) j ones q))[i]'(by rw [hLl]; exact hik) = c3 at hc3
                have hst := HLq.out.stored i (.int .i64 (j : Int))
                rw [intC_set] at hst
                have hgs : (giveK (lostL rows best j) j ones q).set i (j : Int) = giveK (lostL rows best j) j ones (q + 1) := by
                  rw [giveK, show ones.getD q 0 = ones[q] by simp [List.getD, hql], hix, Int.toNat_natCast]
                rw [hgs] at hst
                have HLn := Hid.mk hst.1
                have HBn := Hid.mk (HBq.out.grown hst.2 HBq.out.size (fun q hq => by cases hq; exact Nat.le_refl _))
                have HUn := Hid.mk (owns_beside HUq.out hst.2 (fun x hx e => by
                  have e2 : x = w.heap.size := by simpa using e
                  subst e2
                  exact HA3.out _ hx rfl))
                have HOn := Hid.mk (owns_beside HOq.out hst.2 (fun x hx e => by
                  have e2 : x = w.heap.size := by simpa using e
                  have h1 := (HOq.out.lt x hx).1
                  have h2 := HGL.out
                  omega))
                have hik' : (i : Int) < (k : Int) := by omega
                clear hst hgs hLl hix hql HLq HUq HOq HBq hgo1 hgo2
                go_wp2_with fail
                go_roundw
                case rel => exact ⟨q + 1, by omega, by go_num, HLn, HUn, HOn, HBn⟩
                case measure => simp [intOf]; omega
              · have e : q = lo := by omega
                subst e
                have hLe := HLq.out
                rw [HG2.out] at hLe
                have HLe := Hid.mk hLe
                clear hLe
                go_wp2_with fail
                go_roundw
                case rel => exact ⟨j + 1, by omega, by go_num, HUq, HLe, HA3, HBq⟩
                case measure => simp [intOf]; omega
        · have e2 : j = best.length := by omega
          subst e2
          obtain ⟨g1, g2⟩ := none_left HAp.out HL.out.1
          rw [HR.out] at g1 g2
          rw [g1, g2] at hc0
          have HC := Hid.mk hc0
          clear hc0 g1 g2
          go_wp2_with fail
          refine HC.out.mono ?_
          rintro e w1 ⟨zv, ov, rfl, hz, ho, hb1⟩
          obtain ⟨az, cz, rfl⟩ := owns_slice hz
          obtain ⟨ao, co, rfl⟩ := owns_slice ho
          have HBus1 := Hid.mk (ownsRow_below HBus.out hb1)
          have HLo1 := Hid.mk (ownsRow_below HLo.out hb1)
          have HBel1 := Hid.mk (bl2 HBel.out hb1)
          have hcv := convert_own HBus1.out
          rw [List.take_length] at hcv
          have hfin := HLo1.out
          rw [lost_end] at hfin
          have HFin := Hid.mk hfin
          clear hfin hz ho hb1 HBus HLo HBel HC HBus1 HLo1
          go_wp2_with fail
          go_ret2
          exact ⟨rfl, HFin.out, HBel1.out⟩
end Bw
end Go.Proofs.YthdhhmflfdbkhaaDoor

/- Where something stands in a list, if it stands there once: wire.only of numbers. -/
namespace Go.Proofs.YthdhhmflfdbkhaaDoor
open Go.ChangeShapes Go.WideShapes Go.ChangeAt Go.RowKit
namespace Bw
open Bm

theorem sizeOfI (W : World) : (sizeOf 3).run Tryd.prog W = .ok 1 W := by
  have h : (Tryd.prog.info? 3).map (·.size) = some 1 := by kernel_rfl
  cases hi : Tryd.prog.info? 3 with
  | none => rw [hi] at h; cases h
  | some i =>
    rw [hi] at h
    have h1 : i.size = 1 := by simpa using h
    simp [sizeOf, typeInfo, hi, h1]
theorem sliceI (g n c l : Nat) (xs : List Int) (w : World) (hn : xs.length = n) (hl : l ≤ n) (hnc : n ≤ c) (hx : NumsAt w g 0 xs) :
    ∃ off, (∀ W, (Instr.slice 36 (.slice (some ⟨g, 0, none⟩) n c) (some (.int .i64 (l : Int))) none none).run Tryd.prog W = .ok (.slice (some ⟨g, off, none⟩) (n - l) (c - l)) W) ∧ NumsAt w g off (xs.drop l) := by
  have key : ∀ W, (Instr.slice 36 (.slice (some ⟨g, 0, none⟩) n c) (some (.int .i64 (l : Int))) none none).run Tryd.prog W = .ok (.slice (some ⟨g, if c = l then 0 else l, none⟩) (n - l) (c - l)) W := by
    intro W
    rw [run_slice_l W 36 (some ⟨g, 0, none⟩) n c (by kernel_rfl) .i64 (l : Int) (by omega) (by omega)]
    have e : Tryd.prog.elem 36 = 3 := by kernel_rfl
    rw [e, sizeOfI W]
    simp only [Result.andThen_ok, sliced, Int.toNat_natCast, Nat.mul_one, Option.map_some]
    by_cases h : c = l
    · rw [if_pos h, if_pos h]
    · rw [if_neg h, if_neg h]; simp [Addr.add]; exact fun h => h.symm
  refine ⟨_, key, ?_⟩
  intro i hi
  rw [List.length_drop] at hi
  by_cases h : c = l
  · omega
  · rw [if_neg h]
    have := hx (l + i) (by omega)
    rw [Nat.zero_add] at this
    rw [this]
    simp [List.getD]
set_option maxHeartbeats 2000000 in
set_option maxRecDepth 100000 in
theorem onlyI_any (g n c : Nat) (xs : List Int) (v : Int) (w : World) (hn : xs.length = n) (hm : n ≤ 6) (hnc : n ≤ c) (hx : NumsAt w g 0 xs) :
    Calls Tryd.prog 27 #[.slice (some ⟨g, 0, none⟩) n c, .int .i64 v] w fun e w' => e = .returned (.tuple #[.int .i64 (onlyN xs v), .int .i64 (onlyE xs v)]) ∧ w' = w := by
  have HI := Hid.mk (indexN g 0 n c xs v w hn (by omega) hx)
  have hge := idxG_ge xs v
  rw [hn] at hge
  by_cases h0 : idxG xs v < 0
  · have e1 : onlyE xs v = 8 := by unfold onlyE; rw [if_pos h0]
    have e2 : onlyN xs v = 0 := by unfold onlyN; rw [e1]; rfl
    rw [e1, e2]
    generalize idxG xs v = q at *
    clear e1 e2 hx hn hge
    go_enter Tryd.func27, Tryd.ntmps27
    go_wp2_with fail
    refine HI.out.mono ?_
    rintro e w1 ⟨rfl, hw⟩
    subst hw
    go_wp2_with fail
    go_ret2
    exact ⟨rfl, rfl⟩
  · obtain ⟨l, hl⟩ : ∃ l : Nat, idxG xs v = l := ⟨(idxG xs v).toNat, by omega⟩
    obtain ⟨off, hsl, hx2⟩ := sliceI g n c (l + 1) xs w hn (by omega) hnc hx
    have hc := containsN g off (n - (l + 1)) (c - (l + 1)) (xs.drop (l + 1)) v w (by rw [List.length_drop, hn]) (by omega) hx2
    have e1 : onlyE xs v = if v ∈ xs.drop (l + 1) then 9 else 0 := by
      unfold onlyE
      rw [if_neg h0, hl, Int.toNat_natCast]
      try (by_cases h : v ∈ xs.drop (l + 1) <;> simp [h])
    have e2 : onlyN xs v = if v ∈ xs.drop (l + 1) then 0 else (l : Int) := by
      unfold onlyN
      rw [e1, hl]
      by_cases h : v ∈ xs.drop (l + 1)
      · rw [if_pos h, if_pos h, if_neg (by omega)]
      · rw [if_neg h, if_neg h, if_pos rfl]
    rw [hl] at HI hge
    rw [e1, e2]
    have hsl' : ∀ W, (Instr.slice 36 (.slice (some ⟨g, 0, none⟩) n c) (some (.int .i64 ((l : Int) + 1))) none none).run Tryd.prog W = .ok (.slice (some ⟨g, off, none⟩) (n - (l + 1)) (c - (l + 1))) W := by
      intro W
      have := hsl W
      rw [show ((l + 1 : Nat) : Int) = (l : Int) + 1 by omega] at this
      exact this
    generalize n - (l + 1) = n2 at *
    generalize c - (l + 1) = c2 at *
    clear hsl hl h0 hx hx2 e1 e2
    by_cases h : v ∈ xs.drop (l + 1)
    · rw [if_pos h, if_pos h]
      have hd : decide (v ∈ xs.drop (l + 1)) = true := by simpa using h
      rw [hd] at hc
      have HC := Hid.mk hc
      clear hc h hd hn
      go_enter Tryd.func27, Tryd.ntmps27
      go_wp2_with fail
      refine HI.out.mono ?_
      rintro e w1 ⟨rfl, hw⟩
      subst hw
      go_wp2_with fail
      refine HC.out.mono ?_
      rintro e w2 ⟨rfl, hw2⟩
      subst hw2
      go_wp2_with fail
      go_ret2
      exact ⟨rfl, rfl⟩
    · rw [if_neg h, if_neg h]
      have hd : decide (v ∈ xs.drop (l + 1)) = false := by simpa using h
      rw [hd] at hc
      have HC := Hid.mk hc
      clear hc h hd hn
      go_enter Tryd.func27, Tryd.ntmps27
      go_wp2_with fail
      refine HI.out.mono ?_
      rintro e w1 ⟨rfl, hw⟩
      subst hw
      go_wp2_with fail
      refine HC.out.mono ?_
      rintro e w2 ⟨rfl, hw2⟩
      subst hw2
      go_wp2_with fail
      go_ret2
      exact ⟨rfl, rfl⟩
end Bw
end Go.Proofs.YthdhhmflfdbkhaaDoor

/- Variables of one cell, and worlds of which only some blocks have turned; none walks a function. -/
namespace Go.Proofs.YthdhhmflfdbkhaaDoor
open Go.ChangeShapes Go.WideShapes Go.ChangeAt Go.RowKit
namespace Bw
/-- a variable of one cell -/
def BoxAt (w : World) (g : Nat) (t : TypeId) (v : Value) : Prop := w.heap[g]? = some (.cells #[v] t (0, 0))
theorem BoxAt.lt {w : World} {g : Nat} {t : TypeId} {v : Value} (h : BoxAt w g t v) : g < w.heap.size := by
  rcases Nat.lt_or_ge g w.heap.size with h' | h'
  · exact h'
  · unfold BoxAt at h; rw [Array.getElem?_eq_none h'] at h; cases h
theorem BoxAt.cell {w : World} {g : Nat} {t : TypeId} {v : Value} (h : BoxAt w g t v) : w.cell? ⟨g, 0, none⟩ = some v := by
  rw [cell_of_row w g 0 _ _ _ h]; rfl
theorem BoxAt.frozen {w : World} {g : Nat} {t : TypeId} {v : Value} (h : BoxAt w g t v) : w.frozen? ⟨g, 0, none⟩ = false := frozen_of_row w g 0 _ _ h
theorem BoxAt.kept {w w' : World} {g : Nat} {t : TypeId} {v : Value} (h : BoxAt w g t v) (hb : Below w.heap.size w w') : BoxAt w' g t v := by
  unfold BoxAt; rw [hb.block g h.lt]; exact h
theorem BoxAt.set {w : World} {g : Nat} {t : TypeId} {v : Value} (h : BoxAt w g t v) (u : Value) : BoxAt (w.setCell ⟨g, 0, none⟩ u) g t u := heap_setCell_same w g 0 _ t u h
theorem BoxAt.other {w : World} {g k : Nat} {t : TypeId} {v : Value} (h : BoxAt w g t v) (u : Value) (hk : g ≠ k) : BoxAt (w.setCell ⟨k, 0, none⟩ u) g t v := by
  unfold BoxAt; rw [Below.heap_setCell _ _ _ _ hk]; exact h
/-- of what was there only these blocks have turned -/
structure Tch (gs : List Nat) (w w' : World) : Prop where
  os : w'.os = w.os
  tape : w'.tape = w.tape
  output : w'.output = w.output
  size : w.heap.size ≤ w'.heap.size
  block : ∀ k, k < w.heap.size → k ∉ gs → w'.heap[k]? = w.heap[k]?
theorem Tch.refl (gs : List Nat) (w : World) : Tch gs w w := ⟨rfl, rfl, rfl, Nat.le_refl _, fun _ _ _ => rfl⟩
theorem Tch.of {gs : List Nat} {w w' : World} (h : Below w.heap.size w w') : Tch gs w w' := ⟨h.os, h.tape, h.output, h.size, fun k hk _ => h.block k hk⟩
theorem Tch.trans {gs : List Nat} {w a b : World} (h1 : Tch gs w a) (h2 : Tch gs a b) : Tch gs w b :=
  ⟨h2.os.trans h1.os, h2.tape.trans h1.tape, h2.output.trans h1.output, Nat.le_trans h1.size h2.size, fun k hk hg => (h2.block k (Nat.lt_of_lt_of_le hk h1.size) hg).trans (h1.block k hk hg)⟩
theorem Tch.set {gs : List Nat} {w a : World} (h : Tch gs w a) {g : Nat} (hg : g ∈ gs) (u : Value) : Tch gs w (a.setCell ⟨g, 0, none⟩ u) :=
  h.trans ⟨rfl, rfl, rfl, by simp [World.setCell], fun k _ hk => Below.heap_setCell _ _ _ _ (fun e => hk (e ▸ hg))⟩
theorem Tch.setK {gs : List Nat} {w a : World} (h : Tch gs w a) {g : Nat} (hg : g ∈ gs) (k : Nat) (u : Value) : Tch gs w (a.setCell ⟨g, k, none⟩ u) :=
  h.trans ⟨rfl, rfl, rfl, by simp [World.setCell], fun q _ hq => Below.heap_setCell _ _ _ _ (fun e => hq (e ▸ hg))⟩
theorem Tch.below {gs : List Nat} {w a b : World} {B : Nat} (h : Below B w a) (ht : Tch gs a b) (hg : ∀ g ∈ gs, B ≤ g) (hB : B ≤ w.heap.size) : Below B w b :=
  ⟨ht.os.trans h.os, ht.tape.trans h.tape, ht.output.trans h.output, Nat.le_trans h.size ht.size, fun k hk => (ht.block k (by have := h.size; omega) (fun e => by have := hg k e; omega)).trans (h.block k hk)⟩
theorem Tch.box {gs : List Nat} {w w' : World} (ht : Tch gs w w') {g : Nat} {t : TypeId} {v : Value} (h : BoxAt w g t v) (hg : g ∉ gs) : BoxAt w' g t v := by
  unfold BoxAt; rw [ht.block g h.lt hg]; exact h

end Bw
end Go.Proofs.YthdhhmflfdbkhaaDoor

/- An answer of three: a row, a number, an error. -/
namespace Go.Proofs.YthdhhmflfdbkhaaDoor
namespace Bw
def takeV (A : List UInt8 × Nat × Int) : Value := .tuple #[.string ⟨A.1.toArray⟩, .int .i64 A.2.1, .int .i64 A.2.2]
end Bw
end Go.Proofs.YthdhhmflfdbkhaaDoor

/- What stuff.Take answers of any text and any number: the bits that were there ahead of Put, how many bits they take, and else which error. -/
namespace Go.Proofs.YthdhhmflfdbkhaaDoor
open Go.ChangeShapes Go.WideShapes Go.ChangeAt Go.RowKit
namespace Bw
open Bm

set_option maxHeartbeats 1000000 in
theorem take_bad (s : ByteArray) (n : Int) (w : World) (hs : s.size ≤ maxLen) (hc : checkE s.data.toList ≠ 0) :
    Calls Tryd.prog 79 #[.string s, .int .i64 n] w fun e w' => e = .returned (.tuple #[.string ⟨#[]⟩, .int .i64 0, .int .i64 (checkE s.data.toList)]) ∧ Below w.heap.size w w' := by
  have HS := Hid.mk hs
  have hc' : (checkE s.data.toList == 0) = false := by simpa using hc
  clear hs
  go_enter Tryd.func79, Tryd.ntmps79
  go_wp2_with fail
  refine (check_any s w HS.out).mono ?_
  rintro e w1 ⟨rfl, hb1⟩
  go_wp2_with fail
  go_ret3
  exact ⟨rfl, hb1⟩

set_option maxHeartbeats 1000000 in
theorem take_range (s : ByteArray) (n : Int) (w : World) (hc : checkE s.data.toList = 0) (hn : n < 0 ∨ 1000 < n) :
    Calls Tryd.prog 79 #[.string s, .int .i64 n] w fun e w' => e = .returned (.tuple #[.string ⟨#[]⟩, .int .i64 0, .int .i64 3]) ∧ Below w.heap.size w w' := by
  obtain ⟨h1000, hrow⟩ := small_of_check hc
  have hck := fun W => check_any s W (by unfold maxLen; omega)
  rw [hc] at hck
  have HN := Hid.mk hn
  clear hc hrow hn
  go_enter Tryd.func79, Tryd.ntmps79
  go_wp2_with fail
  refine (hck w).mono ?_
  rintro e w1 ⟨rfl, hb1⟩
  clear hck
  go_wp2_with fail
  refine (isLength_no n w1 HN.out).mono ?_
  rintro e w2 ⟨rfl, hw2⟩
  subst hw2
  go_wp2_with fail
  go_ret3
  exact ⟨rfl, hb1⟩


set_option maxHeartbeats 8000000 in
set_option maxRecDepth 100000 in
theorem take_ok (s : ByteArray) (n : Nat) (w : World) (hc : checkE s.data.toList = 0) (hn : n ≤ 1000) :
    Calls Tryd.prog 79 #[.string s, .int .i64 n] w fun e w' => e = .returned (takeV (takeG s.data.toList n 0 [])) ∧ Below w.heap.size w w' := by
  obtain ⟨i0, hi, hz0, hz1, hz2⟩ := info_parts info_u8
  obtain ⟨h1000, hrow⟩ := small_of_check hc
  have hck := fun W => check_any s W (by unfold maxLen; omega)
  rw [hc] at hck
  clear hc hrow
  obtain ⟨A, hA⟩ : ∃ A, A = takeG s.data.toList n 0 [] := ⟨_, rfl⟩
  rw [← hA]
  have HA := Hid.mk hA
  clear hA
  have hll : s.data.toList.length = s.size := by simp
  have HLL := Hid.mk hll
  clear hll
  go_enter Tryd.func79, Tryd.ntmps79
  go_wp2_with fail
  refine (hck w).mono ?_
  rintro e w1 ⟨rfl, hb1⟩
  clear hck
  have hw1 := hb1.size
  go_wp2_with fail
  refine (isLength_yes n w1 (by omega) (by omega)).mono ?_
  rintro e w2 ⟨rfl, hw2⟩
  subst hw2
  go_wp2_with fail
  go_loopw [8, 10, 21] (fun r uu i wr => ∃ (k u : Nat) (o : List UInt8), k ≤ n ∧ u ≤ s.size ∧ i = .int .i64 k ∧ uu = .int .i64 u ∧ o.length = k ∧ (endR (s.data.toList.take u)).2 ≤ 4 ∧ takeG s.data.toList (n - k) u o = A ∧ wr.ownsRow (w2.heap.size + 1) 5 1 r o.length (cellsOf o) ∧ isRun wr w2.heap.size (endR (s.data.toList.take u)) ∧ Below w.heap.size w wr ∧ w2.heap.size + 1 ≤ wr.heap.size) (fun _ _ i _ => n - (intOf i).toNat)
  case atStart => exact ⟨0, 0, [], Nat.zero_le _, Nat.zero_le _, rfl, rfl, rfl, by simp [endR], HA.out.symm, World.ownsRow_nil _ _ _ _, heap_alloc_new w2 _, hb1.alloc hw1 _, by simp⟩
  case round =>
    obtain ⟨k, u, o, hk, hu, rfl, rfl, hol, h4, hG, hown, hrun, hbel, hsz⟩ := hrel
    have HG := Hid.mk hG
    have H4 := Hid.mk h4
    have HOL := Hid.mk hol
    have HRUN := Hid.mk hrun
    have hol2 : o.length ≤ 1000 := by omega
    clear hG h4 hrun hol
    by_cases hkn : k < n
    · have hkn' : (k : Int) < (n : Int) := by omega
      have hm : n - k = (n - (k + 1)) + 1 := by omega
      have HM := Hid.mk hm
      clear hm
      by_cases hlt : u < s.size
      · have hlt' : (u : Int) < (s.size : Int) := by omega
        obtain ⟨c, hcE⟩ : ∃ c, c = s[u] := ⟨_, rfl⟩
        have hgd : s.data.toList.getD u 0 = c := by rw [hcE, at_getD s u hlt]
        have HGD := Hid.mk hgd
        have hcv : s[u] = c := hcE.symm
        clear hcE hgd
        go_wp2_with (at_builtin; refine wpList_append_own _ rfl (.tmp 32) (.tmp 34) 28 rfl (w2.heap.size + 1) 5 i0 (.int .u8 0) 1 1 Tryd.underlying28 hi hz0 hz1 hz2 rfl (by decide) _ _ _ rfl (hown.alloc _) ⟨wr.heap.size, 0, none⟩ 1 1 [Value.int .u8 c.toNat] rfl rfl (by intro q u hq; match q, hq with | 0, hq => (simp at hq; subst hq; simp [Addr.add])) (by intro u hu; simp at hu; subst hu; rfl) (by unfold maxLen; omega) (by omega) (by simp; omega) ?_; intro v1 w3 hown1 hgrow1 _)
        have hbw3 : Below (w2.heap.size + 1) wr w3 := Below.grown ((Below.refl _ _).alloc hsz _) hgrow1 (by simp; omega) (fun q hq => (hown.lt q hq).1)
        have hrun3 := isRun_at HRUN.out hbw3 (by omega)
        have hbel3 := hbel.trans (hbw3.mono (Nat.le_trans hw1 (Nat.le_succ _)))
        have hsz3 : w2.heap.size + 1 ≤ w3.heap.size := Nat.le_trans hsz hbw3.size
        have hown1' : w3.ownsRow (w2.heap.size + 1) 5 1 v1 (o ++ [c]).length (cellsOf (o ++ [c])) := by
          rw [cellsOf_append, List.length_append]; exact hown1
        have HOWN1 := Hid.mk hown1'
        have hadd := add_any w2.heap.size (endR (s.data.toList.take u)) c w3 (by have := H4.out; omega) hrun3
        have hnx := end_next s.data.toList u (by rw [HLL.out]; exact hlt)
        rw [HGD.out] at hnx
        rw [← hnx] at hadd
        have HADD := Hid.mk hadd
        have hon := end_on s.data.toList u (by rw [HLL.out]; exact hlt) H4.out
        have HON := Hid.mk hon
        clear hown hown1 hown1' hgrow1 hbw3 hbel hsz hrun3 HRUN hadd hnx hon
        go_wp2_with fail
        refine HADD.out.mono ?_
        rintro e w4 ⟨rfl, hrun4, hat4⟩
        have hown4 := hat4.owns HOWN1.out (Nat.lt_succ_self _)
        have hbel4 := hbel3.trans (hat4.below hw1)
        have hsz4 : w2.heap.size + 1 ≤ w4.heap.size := by rw [hat4.size]; exact hsz3
        have HRUN4 := Hid.mk hrun4
        clear HOWN1 HADD hat4 hbel3 hsz3 hrun4
        by_cases h5 : (endR (s.data.toList.take (u + 1))).2 = 5
        · have h5b : ((endR (s.data.toList.take (u + 1))).2 == 5) = true := by simpa using h5
          have H5 := Hid.mk h5
          clear h5
          by_cases hlt2 : u + 1 < s.size
          · have hlt2' : (u : Int) + 1 < (s.size : Int) := by omega
            obtain ⟨d, hdE⟩ : ∃ d, d = s[u + 1] := ⟨_, rfl⟩
            have hgd2 : s.data.toList.getD (u + 1) 0 = d := by rw [hdE, at_getD s (u + 1) hlt2]
            have HGD2 := Hid.mk hgd2
            have hdv : s[u + 1] = d := hdE.symm
            clear hdE hgd2
            by_cases h6 : d = c
            · have h6' : ((d.toNat : Int) == (c.toNat : Int)) = true := by rw [h6]; simp
              have hfin : A = ([], 0, 5) := by
                rw [← HG.out, HM.out]
                exact takeG_six _ _ _ _ (by rw [HLL.out]; exact hlt2) H5.out (by rw [HGD.out, HGD2.out]; exact h6)
              subst hfin
              clear h6
              go_wp2_with fail
              go_ret3
              exact ⟨rfl, hbel4⟩
            · have h6' : ((d.toNat : Int) == (c.toNat : Int)) = false := by
                have : d.toNat ≠ c.toNat := fun h => h6 (UInt8.toNat_inj.1 h)
                rw [beq_eq_false_iff_ne]; omega
              have hG2 : takeG s.data.toList (n - (k + 1)) (u + 2) (o ++ [c]) = A := by
                rw [← HG.out, HM.out, takeG_on5 _ _ _ _ (by rw [HLL.out]; exact hlt2) H5.out (by rw [HGD.out, HGD2.out]; exact h6), HGD.out]
              have HG2 := Hid.mk hG2
              have hadd := add_any w2.heap.size (endR (s.data.toList.take (u + 1))) d w4 (by have := H5.out; omega) HRUN4.out
              have hnx := end_next s.data.toList (u + 1) (by rw [HLL.out]; exact hlt2)
              rw [HGD2.out] at hnx
              rw [← hnx] at hadd
              have HADD := Hid.mk hadd
              have hon := end_on5 s.data.toList u (by rw [HLL.out]; exact hlt2) (by rw [HGD.out, HGD2.out]; exact h6)
              have hon' : (endR (s.data.toList.take (u + 2))).2 ≤ 4 := by rw [hon]; simp
              have HON2 := Hid.mk hon'
              clear h6 hG2 hadd hnx hon hon' HRUN4
              go_wp2_with fail
              refine HADD.out.mono ?_
              rintro e w5 ⟨rfl, hrun5, hat5⟩
              have hown5 := hat5.owns hown4 (Nat.lt_succ_self _)
              have hbel5 := hbel4.trans (hat5.below hw1)
              have hsz5 : w2.heap.size + 1 ≤ w5.heap.size := by rw [hat5.size]; exact hsz4
              clear hown4 HADD hat5 hbel4 hsz4
              go_wp2_with fail
              go_roundw
              case rel => exact ⟨k + 1, u + 2, o ++ [c], by omega, by omega, by go_num, int_eq (by omega), by rw [List.length_append, HOL.out]; rfl, HON2.out, HG2.out, hown5, hrun5, hbel5, hsz5⟩
              case measure => simp [intOf]; omega
          · have hlt2' : ((u : Int) + 1 == (s.size : Int)) = true := by simp; omega
            have hfin : A = ([], 0, 7) := by
              rw [← HG.out, HM.out]
              exact takeG_end5 _ _ _ _ (by rw [HLL.out]; omega) H5.out
            subst hfin
            go_wp2_with fail
            go_ret3
            exact ⟨rfl, hbel4⟩
        · have h5b : ((endR (s.data.toList.take (u + 1))).2 == 5) = false := by simpa using h5
          have hG2 : takeG s.data.toList (n - (k + 1)) (u + 1) (o ++ [c]) = A := by
            rw [← HG.out, HM.out, takeG_on _ _ _ _ (by rw [HLL.out]; exact hlt) h5, HGD.out]
          have HG2 := Hid.mk hG2
          have hon := HON.out h5
          have HON2 := Hid.mk hon
          clear h5 hG2 hon
          go_wp2_with fail
          go_roundw
          case rel => exact ⟨k + 1, u + 1, o ++ [c], by omega, by omega, by go_num, int_eq (by omega), by rw [List.length_append, HOL.out]; rfl, HON2.out, HG2.out, hown4, HRUN4.out, hbel4, hsz4⟩
          case measure => simp [intOf]; omega
      · have hlt' : ((u : Int) == (s.size : Int)) = true := by simp; omega
        have hfin : A = ([], 0, 7) := by
          rw [← HG.out, HM.out]
          exact takeG_end _ _ _ _ (by rw [HLL.out]; omega)
        subst hfin
        clear hown
        go_wp2_with fail
        go_ret3
        exact ⟨rfl, hbel⟩
    · have e : k = n := by omega
      subst e
      have hfin : A = (o, u, 0) := by rw [← HG.out, Nat.sub_self, takeG_zero]
      subst hfin
      have hcv := convert_own hown
      clear hown
      go_wp2_with fail
      go_ret3
      exact ⟨rfl, hbel⟩
end Bw
end Go.Proofs.YthdhhmflfdbkhaaDoor
