/- What the document's own RowOf answers of any number from 0 on, and OfBytes of any bytes up to 125. -/
import Derived.Test.YtopoogdoepdedaaDoorRef1
namespace Go.Proofs.YtopoogdoepdedaaDoor
open Go.ChangeShapes Go.WideShapes Go.ChangeAt Go.RowKit
namespace Bw
open Bm

theorem rep0 (c : Nat) (w : World) (hc : c ≤ 100000) :
    Calls Tryd.prog 28 #[.string ⟨#[48]⟩, .int .i64 c] w fun e w' => ∃ zb : ByteArray, e = .returned (.string zb) ∧ zb.data.toList = List.replicate c 48 ∧ Below w.heap.size w w' := by
  have := Tryd.strings_Repeat ⟨#[48]⟩ c w (by omega) (by show 1 * c ≤ _; omega)
  rw [show (ByteArray.mk #[48]).data.toList = [48] from rfl, repeat_zero] at this
  exact this.mono fun e w' ⟨he, hb⟩ => ⟨_, he, mk_list _, hb⟩

set_option maxHeartbeats 1000000 in
theorem rowOf_zero (size : Nat) (w : World) (hs : size ≤ 62) :
    Calls Tryd.prog 35 #[.int .i64 0, .int .i64 size] w fun e w' => e = .returned (.tuple #[.string ⟨(bitsHead 0 size size).toArray⟩, .bool true]) ∧ Below w.heap.size w w' := by
  have hr := fun W => rep0 size W (by omega)
  have e0 : List.replicate size 48 = bitsHead 0 size size := by
    have := pad_row 0 0 size (by omega) (by omega)
    simpa [bitsHead] using this
  rw [e0] at hr
  clear e0
  go_enter Tryd.func35, Tryd.ntmps35
  go_wp2_with fail
  refine (hr _).mono ?_
  rintro e w1 ⟨zb, rfl, hz, hb⟩
  have hzs := ba_size hz
  rw [bitsHead_length] at hzs
  have hzb : (zb.size : Int) ≤ 62 := by omega
  have HZ := Hid.mk hz
  have hcat : (zb ++ (ByteArray.mk #[])).data.toList = bitsHead 0 size size := by rw [ba_cat, hz]; simp
  have HC := Hid.mk hcat
  clear hr hz hcat hzs
  go_wp2_with fail
  go_ret2
  exact ⟨ret_str2 HC.out, hb⟩

set_option maxHeartbeats 1000000 in
theorem rowOf_pos (n size : Nat) (w : World) (h : w.cell? ⟨4, 1, none⟩ = some (.int .u8 1)) (h0 : 0 < n) (hn : n < 2 ^ 63) (hs : size ≤ 62) :
    Calls Tryd.prog 35 #[.int .i64 n, .int .i64 size] w fun e w' =>
      (n < 2 ^ size → e = .returned (.tuple #[.string ⟨(bitsHead n size size).toArray⟩, .bool true])) ∧ (¬ n < 2 ^ size → e = .returned (.tuple #[.string ⟨#[]⟩, .bool false])) ∧ Below w.heap.size w w' := by
  have hf := formatInt2 n w h hn
  have HN := Hid.mk hn
  have H := Hid.mk hf
  clear hf h hn
  go_enter Tryd.func35, Tryd.ntmps35
  go_wp2_with fail
  refine H.out.mono ?_
  rintro e w1 ⟨j, h1, h2, h3, rfl, hb⟩
  have hsz := mk_size (bitsHead n (j + 1) (j + 1))
  rw [bitsHead_length] at hsz
  have hge : 2 ^ j ≤ n := by rcases h3 with rfl | h3; (simp; omega); exact h3
  have HL := mk_list (bitsHead n (j + 1) (j + 1))
  have hdec : j + 1 ≤ size ↔ n < 2 ^ size := by
    constructor
    · intro h; exact Nat.lt_of_lt_of_le h2 (Nat.pow_le_pow_right (by omega) h)
    · intro h
      rcases Nat.lt_or_ge j size with h' | h'
      · exact h'
      · exact absurd (Nat.le_trans (Nat.pow_le_pow_right (show 0 < 2 by omega) h') hge) (by omega)
  by_cases hj : j + 1 ≤ size
  · have hpad := pad_row n (j + 1) size h2 hj
    have hlt := hdec.1 hj
    have HLT := Hid.mk hlt
    have HP := Hid.mk hpad
    generalize ByteArray.mk (bitsHead n (j + 1) (j + 1)).toArray = sb at *
    have hr := fun W => rep0 (size - (j + 1)) W (by omega)
    have hbb : (sb.size : Int) ≤ (size : Int) := by omega
    have HR := Hid.mk hr
    have HSZ := Hid.mk hsz
    have HLL := Hid.mk HL
    clear hpad hlt hdec h2 h3 hge HL H hr hsz
    go_wp2_with fail
    rw [show (size : Int) - (sb.size : Int) = ((size - (j + 1) : Nat) : Int) by have := HSZ.out; omega]
    refine (HR.out _).mono ?_
    rintro e w2 ⟨zb, rfl, hz, hb2⟩
    have hzs := ba_size hz
    rw [List.length_replicate] at hzs
    have hzb : (zb.size : Int) ≤ 62 := by omega
    have hcat : (zb ++ sb).data.toList = bitsHead n size size := by rw [ba_cat, hz, HLL.out]; exact HP.out
    have HC := Hid.mk hcat
    clear HR hz hcat hzs
    go_wp2_with fail
    go_ret2
    exact ⟨fun _ => ret_str2 HC.out, fun h => absurd HLT.out h, bl2 hb hb2⟩
  · have hnlt : ¬ n < 2 ^ size := fun h => hj (hdec.2 h)
    have HLT := Hid.mk hnlt
    generalize ByteArray.mk (bitsHead n (j + 1) (j + 1)).toArray = sb at *
    have hbb : (size : Int) < (sb.size : Int) := by omega
    have hb63 : (sb.size : Int) ≤ 64 := by omega
    clear hnlt hdec h2 h3 hge HL H hsz
    go_wp2_with fail
    go_ret2
    exact ⟨fun h => absurd h HLT.out, fun _ => rfl, hb⟩
end Bw
end Go.Proofs.YtopoogdoepdedaaDoor
