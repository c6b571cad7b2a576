/- What check.sum answers of a row by one of the five kinds. -/
import Derived.Test.YtopoogdoepdedaaDoorCheckNext
import Derived.Test.YtopoogdoepdedaaDoorSumRow
import Derived.Deep.RegionWith
namespace Go.Proofs.YtopoogdoepdedaaDoor
open Go.ChangeShapes Go.WideShapes Go.ChangeAt Go.RowKit
namespace Bw
open Bm Cm

theorem new_cell (W : World) (cs : Array Value) (t : TypeId) (k g : Nat) (hg : g = W.heap.size) : (W.alloc (.cells cs t)).cell? ⟨g, k, none⟩ = cs[k]? := by
  subst hg
  exact cell_of_row _ _ k _ _ _ (heap_alloc_new W _)
theorem up_lt' {n a c : Nat} (h : n < 2 ^ a) (ha : a ≤ c) : n < 2 ^ c := Nat.lt_of_lt_of_le h (Nat.pow_le_pow_right (Nat.succ_pos 1) ha)
def rk (k : Nat) : Value := .agg #[.int .i64 (kS k), .int .i64 (kP k), .int .i64 (kF k), .int .i64 (kE k)]

set_option maxHeartbeats 4000000 in
theorem sumR_any (s p f en : Nat) (b : ByteArray) (w : World) (hs1 : 1 ≤ s) (hs : s ≤ 21) (hp : p < 2 ^ s) (hf : f < 2 ^ s) (he : en < 2 ^ s) (h1000 : b.size ≤ 1000) (hrow : rowB b.data.toList = true) :
    Calls Tryd.prog 41 #[.agg #[.int .i64 s, .int .i64 p, .int .i64 f, .int .i64 en], .string b] w fun e w' =>
      e = .returned (.tuple #[.string ⟨(bitsHead (crcR s p f b.data.toList ^^^ en) s s).toArray⟩, .int .i64 0]) ∧ Below w.heap.size w w' := by
  have hl : b.data.toList.length = b.size := by simp
  have HL := Hid.mk hl
  have HP := Hid.mk hp
  have HF := Hid.mk hf
  have HE := Hid.mk he
  have HR := Hid.mk hrow
  have hb1 : Below w.heap.size w (w.alloc (.cells #[.int .i64 s, .int .i64 p, .int .i64 f, .int .i64 en] 79)) := (Below.refl _ _).alloc (Nat.le_refl _) _
  have hnc := fun k => new_cell w #[.int .i64 s, .int .i64 p, .int .i64 f, .int .i64 en] 79 k w.heap.size rfl
  have HC := Hid.mk (And.intro (hnc 0) (And.intro (hnc 1) (And.intro (hnc 2) (hnc 3))))
  have HS := Hid.mk (show (w.alloc (.cells #[.int .i64 s, .int .i64 p, .int .i64 f, .int .i64 en] 79)).heap.size = w.heap.size + 1 by simp)
  clear hp hf he hrow hnc hl
  go_enter Tryd.func41, Tryd.ntmps41
  go_wp2_with fail
  generalize hW1 : w.alloc (.cells #[.int .i64 s, .int .i64 p, .int .i64 f, .int .i64 en] 79) = W1 at *
  clear hW1
  go_loopw [6, 12] (fun r i wr => ∃ j : Nat, j ≤ b.size ∧ i = .int .i64 j ∧ r = .int .i64 (crcR s p f (b.data.toList.take j)) ∧ Below W1.heap.size W1 wr) (fun _ i _ => b.size - (intOf i).toNat)
  case atStart => exact ⟨0, Nat.zero_le _, rfl, rfl, Below.refl _ _⟩
  case round =>
    obtain ⟨j, hj, rfl, rfl, hbel⟩ := hrel
    have k0 := cell_kept hbel HC.out.1
    have k1 := cell_kept hbel HC.out.2.1
    have k2 := cell_kept hbel HC.out.2.2.1
    have k3 := cell_kept hbel HC.out.2.2.2
    simp at k0 k1 k2 k3
    have HN := Hid.mk (crcR_lt s p f HP.out HF.out (b.data.toList.take j))
    by_cases hlt : j < b.size
    · have hbit := rowB_at HR.out j hlt
      have hd := (bit_dig hbit).2
      have hd1 := (bit_dig hbit).1
      have HT := Hid.mk (take_snoc b j hlt)
      have hbn := rowB_at' HR.out j hlt
      have hb48 : (48 : Int) ≤ (b[j].toNat : Int) := by omega
      have hb49 : (b[j].toNat : Int) ≤ 49 := by omega
      have HD : Hid (IntKind.i64.wrap (IntKind.u8.wrap ((b[j].toNat : Int) - 48)) = ((dig b[j] : Nat) : Int)) := by
        refine Hid.mk ?_
        rw [hd]
        have e1 : IntKind.u8.wrap ((b[j].toNat : Int) - 48) = (b[j].toNat : Int) - 48 := by simp [IntKind.wrap, IntKind.bits, IntKind.signed]; omega
        rw [e1, IntKind.wrap_i64]; omega
      clear hd hd1 hbit hbn
      go_wp2_with fail
      set_option maxRecDepth 100000 in
      go_region_with (go_at_call 61; rw [HD.out]; refine (next_any s p f en _ (dig b[j]) _ hs1 hs HP.out HN.out).mono ?_; rintro e w2 ⟨rfl, hb2⟩)
      all_goals focus
        have hbel2 : Below W1.heap.size W1 w2 := hbel.drew.trans (hb2.mono hbel.size)
        rw [← crcR_snoc, ← HT.out]
        clear hb2 hbel k0 k1 k2 k3 HD HN
        go_wp2_with fail
        go_roundw
        case rel => exact ⟨j + 1, by omega, by go_num, rfl, hbel2⟩
        case measure => simp [intOf]; omega
    · have e : j = b.size := by omega
      subst e
      rw [List.take_of_length_le (by rw [HL.out]; exact Nat.le_refl _)] at HN ⊢
      have hx := xor_i64 _ _ (up_lt' (c := 62) HN.out (by omega)) (up_lt' (c := 62) HE.out (by omega))
      have hr := row_ok (crcR s p f b.data.toList ^^^ en) s wr (by omega) (Nat.xor_lt_two_pow HN.out HE.out)
      have HX := Hid.mk hx
      have HRO := Hid.mk hr
      clear hx hr
      go_wp2_with fail
      rw [HX.out]
      refine HRO.out.mono ?_
      rintro e w2 ⟨rfl, hb2⟩
      go_wp2_with fail
      go_ret2
      exact ⟨rfl, hb1.trans ((hbel.trans (hb2.mono hbel.size)).mono hb1.size)⟩
end Bw
end Go.Proofs.YtopoogdoepdedaaDoor
