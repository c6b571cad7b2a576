/- What the document's own OfBytes answers of any bytes up to 125: eight bits each. -/
import Derived.Test.YtopoogdoepdedaaDoorRef2
namespace Go.Proofs.YtopoogdoepdedaaDoor
open Go.ChangeShapes Go.WideShapes Go.ChangeAt Go.RowKit
namespace Bw
open Bm

set_option maxHeartbeats 2000000 in
theorem ofBytes_any (a : Option Addr) (len cap : Nat) (l : List UInt8) (w : World) (h : w.cell? ⟨4, 1, none⟩ = some (.int .u8 1)) (hl : len ≤ 125) (hr : IsBytes w a len cap l) :
    Calls Tryd.prog 15 #[.slice a len cap] w fun e w' => e = .returned (.string ⟨(ofL l).toArray⟩) ∧ Below w.heap.size w w' := by
  obtain ⟨hlen, _, _, hnil, hcells⟩ := hr
  have HC := Hid.mk hcells
  have HN := Hid.mk hnil
  have HL := Hid.mk hlen
  have H := Hid.mk h
  clear hcells hnil hlen h
  go_enter Tryd.func15, Tryd.ntmps15
  go_wp2_with fail
  go_loopw [3, 9] (fun s i wr => ∃ (k : Nat) (sb : ByteArray), k ≤ len ∧ i = .int .i64 k ∧ s = .string sb ∧ sb.data.toList = ofL (l.take k) ∧ Below w.heap.size w wr) (fun _ i _ => len - (intOf i).toNat)
  case atStart => exact ⟨0, ⟨#[]⟩, Nat.zero_le _, rfl, rfl, rfl, Below.refl _ _⟩
  case round =>
    obtain ⟨k, sb, hk, rfl, rfl, hsb, hbel⟩ := hrel
    have hsz := ba_size hsb
    rw [ofL_length, List.length_take] at hsz
    have hsz2 : (sb.size : Int) ≤ 1000 := by have := HL.out; omega
    have HS := Hid.mk hsb
    clear hsz hsb
    by_cases hlt : k < len
    · cases a with
      | none => exact absurd (HN.out rfl) (by omega)
      | some x =>
        have hc := cell_kept hbel (HC.out x rfl k hlt)
        have hlt' : (k : Int) < (len : Int) := by omega
        obtain ⟨c, hcE⟩ : ∃ c, c = l.getD k 0 := ⟨_, rfl⟩
        rw [← hcE] at hc
        have HE := Hid.mk hcE
        clear hcE
        have hcn := c.toNat_lt
        have hcb : (c.toNat : Int) ≤ 255 := by omega
        have hf := formatInt2 c.toNat wr (cell_kept hbel H.out) (by omega)
        have HF := Hid.mk hf
        clear hf
        go_wp2_with fail
        refine HF.out.mono ?_
        rintro e w1 ⟨j, h1, h2, h3, rfl, hb1⟩
        have hj7 : j ≤ 7 := by
          rcases h3 with rfl | h3
          · omega
          · rcases Nat.lt_or_ge j 8 with h' | h'
            · omega
            · have := Nat.le_trans (Nat.pow_le_pow_right (show 0 < 2 by omega) h') h3
              omega
        have hpad := pad_row c.toNat (j + 1) 8 h2 (by omega)
        have hqs := mk_size (bitsHead c.toNat (j + 1) (j + 1))
        rw [bitsHead_length] at hqs
        have hql := mk_list (bitsHead c.toNat (j + 1) (j + 1))
        generalize ByteArray.mk (bitsHead c.toNat (j + 1) (j + 1)).toArray = qb at *
        have hqb : (qb.size : Int) ≤ 8 := by omega
        have HQ := Hid.mk hqs
        have HQL := Hid.mk hql
        have HP := Hid.mk hpad
        have hbel1 := bl2 hbel hb1
        clear hqs hql hpad h1 h2 h3 HF hb1 hbel
        go_wp2_with fail
        rw [show (8 : Int) - (qb.size : Int) = ((8 - (j + 1) : Nat) : Int) by have := HQ.out; omega]
        refine (rep0 (8 - (j + 1)) _ (by omega)).mono ?_
        rintro e w2 ⟨zb, rfl, hz, hb2⟩
        have hzs := ba_size hz
        rw [List.length_replicate] at hzs
        have hzb : (zb.size : Int) ≤ 8 := by omega
        have hcat : (sb ++ (zb ++ qb)).data.toList = ofL (l.take (k + 1)) := by
          rw [ba_cat, ba_cat, hz, HQL.out, HP.out, HS.out, take_snocL l k (by have := HL.out; omega), ofL_snoc, ← HE.out]
        have HCt := Hid.mk hcat
        have hbel2 := bl2 hbel1 hb2
        have hzq : ((zb ++ qb).size : Int) ≤ 16 := by rw [ByteArray.size_append]; omega
        clear hz hzs hcat hb2 hbel1
        go_wp2_with fail
        go_roundw
        case rel => exact ⟨k + 1, _, by omega, by go_num, rfl, HCt.out, hbel2⟩
        case measure => simp [intOf]; omega
    · have e : k = len := by omega
      subst e
      have hfin : sb.data.toList = ofL l := by rw [HS.out, List.take_of_length_le (by have := HL.out; omega)]
      have HF := Hid.mk hfin
      clear hfin
      go_wp2_with fail
      go_ret
      exact ⟨ret_str1 HF.out, hbel⟩
end Bw
end Go.Proofs.YtopoogdoepdedaaDoor
