/- What slices.Equal answers of two slices that hold the same filters: true; the closed fact of the laws. -/
import Derived.Test.YtfmjhgggoklaoaaDoorFilCount
import Derived.Test.YtfmjhgggoklaoaaDoorFilRanges
namespace Go.Proofs.YtfmjhgggoklaoaaDoor
open Go.ChangeShapes Go.WideShapes Go.ChangeAt Go.RowKit
namespace Bw
set_option maxHeartbeats 2000000 in
set_option maxRecDepth 100000 in
theorem equalF_true (w : World) (a b : Option Addr) (n c d : Nat) (l : List Fl) (ha : IsFils w a n c l) (hb : IsFils w b n d l) :
    Calls Tryd.prog 18 #[.slice a n c, .slice b n d] w fun e w' => e = .returned (.bool true) ∧ Below w.heap.size w w' := by
  have hn63 : n ≤ 9223372036854775807 := by have h1 := ha.le; have h2 := ha.max; unfold maxLen at h2; omega
  have HA := Hid.mk ha
  have HB := Hid.mk hb
  clear ha hb
  go_enter Tryd.func18, Tryd.ntmps18
  go_wp2
  go_loopw [13] (fun i w' => ∃ k : Nat, k ≤ n ∧ i = .int .i64 k ∧ ∃ m, w' = w.drewN m) (fun i _ => n - (intOf i).toNat)
  case atStart => exact ⟨0, Nat.zero_le _, rfl, 0, rfl⟩
  case round =>
    obtain ⟨k, hk, rfl, m, rfl⟩ := hrel
    by_cases hlt : k < n
    · obtain ⟨x, rfl⟩ := fils_some HA.out hlt
      obtain ⟨y, rfl⟩ := fils_some HB.out hlt
      obtain ⟨g1, g2, g3⟩ := fils_at HA.out hlt
      obtain ⟨h1, h2, h3⟩ := fils_at HB.out hlt
      generalize l.getD k noF = z at *
      have hlt' : (k : Int) < (n : Int) := by omega
      go_wp2
      go_quiet (fail)
      go_wp2
      go_roundw
      case rel => exact ⟨k + 1, by omega, by go_num, _, rfl⟩
      case measure => simp [intOf]; omega
    · go_wp2
      go_ret
      exact ⟨rfl, ⟨rfl, rfl, rfl, Nat.le_refl _, fun _ _ => rfl⟩⟩
theorem rng36 : rngN false 6 3 = [⟨3, 2047, false⟩, ⟨4, 2046, false⟩, ⟨6, 2047, false⟩] := by
  rw [rngN_more (by decide), show grX 3 6 = 0 by decide, rngN_more (by decide), show grX (3 + 2 ^ 0) 6 = 1 by decide, rngN_more (by decide), show grX (3 + 2 ^ 0 + 2 ^ 1) 6 = 0 by decide, rngN_end (by decide)]
  rfl
def lit36 : List Value := [.int .i64 3, .int .i64 2047, .bool false, .int .i64 4, .int .i64 2046, .bool false, .int .i64 6, .int .i64 2047, .bool false]
theorem fils36 (w : World) : IsFils (w.alloc (.cells #[.int .i64 3, .int .i64 2047, .bool false, .int .i64 4, .int .i64 2046, .bool false, .int .i64 6, .int .i64 2047, .bool false] 34)) (some ⟨w.heap.size, 0, none⟩) 3 3 ([⟨3, 2047, false⟩, ⟨4, 2046, false⟩, ⟨6, 2047, false⟩] : List Fl) := by
  have h := heap_alloc_new w (.cells #[.int .i64 3, .int .i64 2047, .bool false, .int .i64 4, .int .i64 2046, .bool false, .int .i64 6, .int .i64 2047, .bool false] 34)
  refine ⟨rfl, Nat.le_refl _, by decide, (fun h => by cases h), fun x hx i hi => ?_⟩
  cases hx
  have ea : ∀ j, (Addr.add ⟨w.heap.size, 0, none⟩ j) = ⟨w.heap.size, j, none⟩ := by intro j; simp [Addr.add]; exact fun h => h.symm
  rw [ea, ea, ea]
  match i, hi with
  | 0, _ => exact ⟨cell_of_row _ _ 0 _ _ _ h, cell_of_row _ _ 1 _ _ _ h, cell_of_row _ _ 2 _ _ _ h⟩
  | 1, _ => exact ⟨cell_of_row _ _ 3 _ _ _ h, cell_of_row _ _ 4 _ _ _ h, cell_of_row _ _ 5 _ _ _ h⟩
  | 2, _ => exact ⟨cell_of_row _ _ 6 _ _ _ h, cell_of_row _ _ 7 _ _ _ h, cell_of_row _ _ 8 _ _ _ h⟩
set_option maxHeartbeats 4000000 in
set_option maxRecDepth 100000 in
theorem filtered_any (w : World) (hL : LastsAt w) :
    Calls Tryd.prog 11 #[] w fun e w' => e = .returned (.bool true) ∧ Below w.heap.size w w' := by
  have hR := ranges_ok 3 6 false w hL (by decide) (by decide)
  have hok := rngN_ok false 6 3 (by decide)
  have hcn := rngN_count false 6 3 (by decide)
  rw [rng36] at hR hok hcn
  have HR := Hid.mk hR
  have HC := Hid.mk (fun a c W hF hW => count_ok a 3 c [⟨3, 2047, false⟩, ⟨4, 2046, false⟩, ⟨6, 2047, false⟩] false W hF hW hok (by omega))
  rw [hcn] at HC
  have HL := Hid.mk hL
  clear hR hok hcn hL
  simp only [Int.cast_ofNat_Int, Nat.reduceAdd, Nat.reduceSub] at HR HC
  go_enter Tryd.func11, Tryd.ntmps11
  go_wp2_with fail
  refine HR.out.mono ?_
  rintro e w1 ⟨v, rfl, hown, hb1⟩
  obtain ⟨a, cap, rfl, hF⟩ := fils_of hown
  have HF1 := Hid.mk hF
  have HB1 := Hid.mk hb1
  have HL1 := Hid.mk (HL.out.kept hb1)
  clear hown hF hb1 HR HL
  go_wp2_with fail
  refine (HC.out a cap _ HF1.out HL1.out).mono ?_
  rintro e w2 ⟨rfl, hb2⟩
  have HB2 := Hid.mk (bl2 HB1.out hb2)
  have HF2 := Hid.mk (HF1.out.kept hb2)
  clear hb2 HF1 HB1 HL1 HC
  have hb3 : Below w2.heap.size w2 (w2.alloc (.cells #[.int .i64 3, .int .i64 2047, .bool false, .int .i64 4, .int .i64 2046, .bool false, .int .i64 6, .int .i64 2047, .bool false] 34)) := (Below.refl _ _).alloc (Nat.le_refl _) _
  have HE := Hid.mk (equalF_true _ a (some ⟨w2.heap.size, 0, none⟩) 3 cap 3 _ (HF2.out.kept hb3) (fils36 w2))
  have HB3 := Hid.mk (bl2 HB2.out hb3)
  clear hb3
  go_wp2_with fail
  refine HE.out.mono ?_
  rintro e w3 ⟨rfl, hb4⟩
  have HB4 := Hid.mk (bl2 HB3.out hb4)
  clear hb4
  go_wp2_with fail
  go_ret
  exact ⟨rfl, HB4.out⟩
end Bw
end Go.Proofs.YtfmjhgggoklaoaaDoor
