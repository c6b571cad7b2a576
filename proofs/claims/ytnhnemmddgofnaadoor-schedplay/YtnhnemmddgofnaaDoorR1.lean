/- What the document's own OfBytes answers of any bytes up to 125: eight bits each. -/
import Derived.Test.YtnhnemmddgofnaaDoorFmt2
import Derived.Test.YtnhnemmddgofnaaDoorC1
import Derived.Test.YtnhnemmddgofnaaDoorShelfStr
namespace Go.Proofs.YtnhnemmddgofnaaDoor
open Go.ChangeShapes Go.WideShapes Go.ChangeAt Go.RowKit
namespace Bw
open Bm

set_option maxHeartbeats 1000000 in
theorem formatInt2 (n : Nat) (w : World) (h : w.cell? ⟨5, 1, none⟩ = some (.int .u8 1)) (hn : n < 2 ^ 63) :
    Calls Tryd.prog 54 #[.int .i64 n, .int .i64 2] w fun e w' => ∃ j, j ≤ 63 ∧ n < 2 ^ (j + 1) ∧ (j = 0 ∨ 2 ^ j ≤ n) ∧ e = .returned (.string ⟨(bitsHead n (j + 1) (j + 1)).toArray⟩) ∧ Below w.heap.size w w' := by
  have hc := formatBits2 n w h hn
  have hn' : (n : Int) < 9223372036854775808 := by omega
  have H := Hid.mk hc
  clear hc h hn
  go_enter Tryd.func54, Tryd.ntmps54
  go_wp2_with (go_at_call 68; go_in)
  refine H.out.mono ?_
  rintro e w1 ⟨j, h1, h2, h3, rfl, hb⟩
  go_wp2_with fail
  go_ret
  exact ⟨j, h1, h2, h3, rfl, hb⟩

theorem repeat_zero (c : Nat) : Lib.repeatL [48] c = List.replicate c 48 := by
  induction c with
  | zero => rfl
  | succ c ih => rw [Lib.repeatL, ih, List.replicate_succ]; rfl

theorem bitAt_high (n j : Nat) (h : n < 2 ^ j) : bitAt n j = 48 := by
  unfold bitAt; rw [Nat.div_eq_of_lt h]; rfl
theorem pad_row (n j size : Nat) (hn : n < 2 ^ j) (hj : j ≤ size) : List.replicate (size - j) 48 ++ bitsHead n j j = bitsHead n size size := by
  apply List.ext_getElem
  · rw [List.length_append, List.length_replicate, bitsHead_length, bitsHead_length]; omega
  · intro i h1 h2
    rw [bitsHead_length] at h2
    by_cases hi : i < size - j
    · rw [List.getElem_append_left (by simpa using hi)]
      simp only [List.getElem_replicate, bitsHead, List.getElem_map, List.getElem_range]
      exact (bitAt_high n _ (Nat.lt_of_lt_of_le hn (Nat.pow_le_pow_right (by omega) (by omega)))).symm
    · rw [List.getElem_append_right (by simpa using hi)]
      simp only [List.length_replicate, bitsHead, List.getElem_map, List.getElem_range]
      congr 1; omega
end Bw
end Go.Proofs.YtnhnemmddgofnaaDoor
namespace Go.Proofs.YtnhnemmddgofnaaDoor
open Go.ChangeShapes Go.WideShapes Go.ChangeAt Go.RowKit
namespace Bw
open Bm

theorem rep0 (c : Nat) (w : World) (hc : c ≤ 100000) :
    Calls Tryd.prog 55 #[.string ⟨#[48]⟩, .int .i64 c] w fun e w' => ∃ zb : ByteArray, e = .returned (.string zb) ∧ zb.data.toList = List.replicate c 48 ∧ Below w.heap.size w w' := by
  have := Tryd.strings_Repeat ⟨#[48]⟩ c w (by omega) (by show 1 * c ≤ _; omega)
  rw [show (ByteArray.mk #[48]).data.toList = [48] from rfl, repeat_zero] at this
  exact this.mono fun e w' ⟨he, hb⟩ => ⟨_, he, mk_list _, hb⟩

set_option maxHeartbeats 1000000 in
theorem rowOf_zero (size : Nat) (w : World) (hs : size ≤ 62) :
    Calls Tryd.prog 47 #[.int .i64 0, .int .i64 size] w fun e w' => e = .returned (.tuple #[.string ⟨(bitsHead 0 size size).toArray⟩, .bool true]) ∧ Below w.heap.size w w' := by
  have hr := fun W => rep0 size W (by omega)
  have e0 : List.replicate size 48 = bitsHead 0 size size := by
    have := pad_row 0 0 size (by omega) (by omega)
    simpa [bitsHead] using this
  rw [e0] at hr
  clear e0
  go_enter Tryd.func47, Tryd.ntmps47
  go_wp2_with fail
  refine (hr _).mono ?_
  rintro e w1 ⟨zb, rfl, hz, hb⟩
  have hzs := ba_size hz
  rw [bitsHead_length] at hzs
  have hzb : (zb.size : Int) ≤ 62 := by omega
  have HZ := Hid.mk hz
  have hcat : (zb ++ (ByteArray.mk #[])).data.toList = bitsHead 0 size size := by rw [ba_cat, hz]; simp
  have HC := Hid.mk hcat
  clear hr hz hcat hzs
  go_wp2_with fail
  go_ret2
  exact ⟨ret_str2 HC.out, hb⟩

set_option maxHeartbeats 1000000 in
theorem rowOf_pos (n size : Nat) (w : World) (h : w.cell? ⟨5, 1, none⟩ = some (.int .u8 1)) (h0 : 0 < n) (hn : n < 2 ^ 63) (hs : size ≤ 62) :
    Calls Tryd.prog 47 #[.int .i64 n, .int .i64 size] w fun e w' =>
      (n < 2 ^ size → e = .returned (.tuple #[.string ⟨(bitsHead n size size).toArray⟩, .bool true])) ∧ (¬ n < 2 ^ size → e = .returned (.tuple #[.string ⟨#[]⟩, .bool false])) ∧ Below w.heap.size w w' := by
  have hf := formatInt2 n w h hn
  have HN := Hid.mk hn
  have H := Hid.mk hf
  clear hf h hn
  go_enter Tryd.func47, Tryd.ntmps47
  go_wp2_with fail
  refine H.out.mono ?_
  rintro e w1 ⟨j, h1, h2, h3, rfl, hb⟩
  have hsz := mk_size (bitsHead n (j + 1) (j + 1))
  rw [bitsHead_length] at hsz
  have hge : 2 ^ j ≤ n := by rcases h3 with rfl | h3; (simp; omega); exact h3
  have HL := mk_list (bitsHead n (j + 1) (j + 1))
  have hdec : j + 1 ≤ size ↔ n < 2 ^ size := by
    constructor
    · intro h; exact Nat.lt_of_lt_of_le h2 (Nat.pow_le_pow_right (by omega) h)
    · intro h
      rcases Nat.lt_or_ge j size with h' | h'
      · exact h'
      · exact absurd (Nat.le_trans (Nat.pow_le_pow_right (show 0 < 2 by omega) h') hge) (by omega)
  by_cases hj : j + 1 ≤ size
  · have hpad := pad_row n (j + 1) size h2 hj
    have hlt := hdec.1 hj
    have HLT := Hid.mk hlt
    have HP := Hid.mk hpad
    generalize ByteArray.mk (bitsHead n (j + 1) (j + 1)).toArray = sb at *
    have hr := fun W => rep0 (size - (j + 1)) W (by omega)
    have hbb : (sb.size : Int) ≤ (size : Int) := by omega
    have HR := Hid.mk hr
    have HSZ := Hid.mk hsz
    have HLL := Hid.mk HL
    clear hpad hlt hdec h2 h3 hge HL H hr hsz
    go_wp2_with fail
    rw [show (size : Int) - (sb.size : Int) = ((size - (j + 1) : Nat) : Int) by have := HSZ.out; omega]
    refine (HR.out _).mono ?_
    rintro e w2 ⟨zb, rfl, hz, hb2⟩
    have hzs := ba_size hz
    rw [List.length_replicate] at hzs
    have hzb : (zb.size : Int) ≤ 62 := by omega
    have hcat : (zb ++ sb).data.toList = bitsHead n size size := by rw [ba_cat, hz, HLL.out]; exact HP.out
    have HC := Hid.mk hcat
    clear HR hz hcat hzs
    go_wp2_with fail
    go_ret2
    exact ⟨fun _ => ret_str2 HC.out, fun h => absurd HLT.out h, bl2 hb hb2⟩
  · have hnlt : ¬ n < 2 ^ size := fun h => hj (hdec.2 h)
    have HLT := Hid.mk hnlt
    generalize ByteArray.mk (bitsHead n (j + 1) (j + 1)).toArray = sb at *
    have hbb : (size : Int) < (sb.size : Int) := by omega
    have hb63 : (sb.size : Int) ≤ 64 := by omega
    clear hnlt hdec h2 h3 hge HL H hsz
    go_wp2_with fail
    go_ret2
    exact ⟨fun h => absurd h HLT.out, fun _ => rfl, hb⟩
end Bw
end Go.Proofs.YtnhnemmddgofnaaDoor
namespace Go.Proofs.YtnhnemmddgofnaaDoor
open Go.ChangeShapes Go.WideShapes Go.ChangeAt Go.RowKit
namespace Ww
open Bm

theorem rowOf_fit (V s : Nat) (w : World) (h : w.cell? ⟨5, 1, none⟩ = some (.int .u8 1)) (hs : s ≤ 30) (hV : V < 2 ^ s) :
    Calls Tryd.prog 47 #[.int .i64 V, .int .i64 s] w fun e w' => e = .returned (.tuple #[.string ⟨(Bw.bitsHead V s s).toArray⟩, .bool true]) ∧ Below w.heap.size w w' := by
  by_cases h0 : V = 0
  · subst h0; exact Bw.rowOf_zero s w (by omega)
  · have h63 : V < 2 ^ 63 := Nat.lt_of_lt_of_le hV (Nat.pow_le_pow_right (Nat.succ_pos 1) (by omega))
    refine (Bw.rowOf_pos V s w h (by omega) h63 (by omega)).mono ?_
    rintro e w' ⟨h1, _, h3⟩
    exact ⟨h1 hV, h3⟩
end Ww
end Go.Proofs.YtnhnemmddgofnaaDoor
namespace Go.Proofs.YtnhnemmddgofnaaDoor
open Go.ChangeShapes Go.WideShapes Go.ChangeAt Go.RowKit
namespace Bw
open Bm

set_option maxHeartbeats 2000000 in
theorem ofBytes_any (a : Option Addr) (len cap : Nat) (l : List UInt8) (w : World) (h : w.cell? ⟨5, 1, none⟩ = some (.int .u8 1)) (hl : len ≤ 125) (hr : IsBytes w a len cap l) :
    Calls Tryd.prog 48 #[.slice a len cap] w fun e w' => e = .returned (.string ⟨(ofL l).toArray⟩) ∧ Below w.heap.size w w' := by
  obtain ⟨hlen, _, _, hnil, hcells⟩ := hr
  have HC := Hid.mk hcells
  have HN := Hid.mk hnil
  have HL := Hid.mk hlen
  have H := Hid.mk h
  clear hcells hnil hlen h
  go_enter Tryd.func48, Tryd.ntmps48
  go_wp2_with fail
  go_loopw [3, 9] (fun s i wr => ∃ (k : Nat) (sb : ByteArray), k ≤ len ∧ i = .int .i64 k ∧ s = .string sb ∧ sb.data.toList = ofL (l.take k) ∧ Below w.heap.size w wr) (fun _ i _ => len - (intOf i).toNat)
  case atStart => exact ⟨0, ⟨#[]⟩, Nat.zero_le _, rfl, rfl, rfl, Below.refl _ _⟩
  case round =>
    obtain ⟨k, sb, hk, rfl, rfl, hsb, hbel⟩ := hrel
    have hsz := ba_size hsb
    rw [ofL_length, List.length_take] at hsz
    have hsz2 : (sb.size : Int) ≤ 1000 := by have := HL.out; omega
    have HS := Hid.mk hsb
    clear hsz hsb
    by_cases hlt : k < len
    · cases a with
      | none => exact absurd (HN.out rfl) (by omega)
      | some x =>
        have hc := cell_kept hbel (HC.out x rfl k hlt)
        have hlt' : (k : Int) < (len : Int) := by omega
        obtain ⟨c, hcE⟩ : ∃ c, c = l.getD k 0 := ⟨_, rfl⟩
        rw [← hcE] at hc
        have HE := Hid.mk hcE
        clear hcE
        have hcn := c.toNat_lt
        have hcb : (c.toNat : Int) ≤ 255 := by omega
        have hf := formatInt2 c.toNat wr (cell_kept hbel H.out) (by omega)
        have HF := Hid.mk hf
        clear hf
        go_wp2_with fail
        refine HF.out.mono ?_
        rintro e w1 ⟨j, h1, h2, h3, rfl, hb1⟩
        have hj7 : j ≤ 7 := by
          rcases h3 with rfl | h3
          · omega
          · rcases Nat.lt_or_ge j 8 with h' | h'
            · omega
            · have := Nat.le_trans (Nat.pow_le_pow_right (show 0 < 2 by omega) h') h3
              omega
        have hpad := pad_row c.toNat (j + 1) 8 h2 (by omega)
        have hqs := mk_size (bitsHead c.toNat (j + 1) (j + 1))
        rw [bitsHead_length] at hqs
        have hql := mk_list (bitsHead c.toNat (j + 1) (j + 1))
        generalize ByteArray.mk (bitsHead c.toNat (j + 1) (j + 1)).toArray = qb at *
        have hqb : (qb.size : Int) ≤ 8 := by omega
        have HQ := Hid.mk hqs
        have HQL := Hid.mk hql
        have HP := Hid.mk hpad
        have hbel1 := bl2 hbel hb1
        clear hqs hql hpad h1 h2 h3 HF hb1 hbel
        go_wp2_with fail
        rw [show (8 : Int) - (qb.size : Int) = ((8 - (j + 1) : Nat) : Int) by have := HQ.out; omega]
        refine (rep0 (8 - (j + 1)) _ (by omega)).mono ?_
        rintro e w2 ⟨zb, rfl, hz, hb2⟩
        have hzs := ba_size hz
        rw [List.length_replicate] at hzs
        have hzb : (zb.size : Int) ≤ 8 := by omega
        have hcat : (sb ++ (zb ++ qb)).data.toList = ofL (l.take (k + 1)) := by
          rw [ba_cat, ba_cat, hz, HQL.out, HP.out, HS.out, take_snocL l k (by have := HL.out; omega), ofL_snoc, ← HE.out]
        have HCt := Hid.mk hcat
        have hbel2 := bl2 hbel1 hb2
        have hzq : ((zb ++ qb).size : Int) ≤ 16 := by rw [ByteArray.size_append]; omega
        clear hz hzs hcat hb2 hbel1
        go_wp2_with fail
        go_roundw
        case rel => exact ⟨k + 1, _, by omega, by go_num, rfl, HCt.out, hbel2⟩
        case measure => simp [intOf]; omega
    · have e : k = len := by omega
      subst e
      have hfin : sb.data.toList = ofL l := by rw [HS.out, List.take_of_length_le (by have := HL.out; omega)]
      have HF := Hid.mk hfin
      clear hfin
      go_wp2_with fail
      go_ret
      exact ⟨ret_str1 HF.out, hbel⟩
end Bw
end Go.Proofs.YtnhnemmddgofnaaDoor
