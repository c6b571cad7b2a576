/- What the document's own SumOf answers of a row by one of the five kinds: what the register holds behind the row, turned at the end, as a row of its bits. -/
import Derived.Test.YtemohjamcdkcmaaGreatDoorC19
import Derived.Test.YtemohjamcdkcmaaGreatDoorC2
import Derived.Test.YtemohjamcdkcmaaGreatDoorC17
namespace Go.Proofs.YtemohjamcdkcmaaGreatDoor
open Go.ChangeShapes Go.WideShapes Go.ChangeAt Go.RowKit
namespace Ww
open Wm Bm Cm

theorem tabS (k : Nat) (h : k ≤ 4) : (#[Value.int .i64 15, .int .i64 17, .int .i64 21, .int .i64 8, .int .i64 16] : Array Value)[k]? = some (.int .i64 (kS k)) := by
  match k, h with
  | 0, _ => rfl
  | 1, _ => rfl
  | 2, _ => rfl
  | 3, _ => rfl
  | 4, _ => rfl
theorem tabP (k : Nat) (h : k ≤ 4) : (#[Value.int .i64 17817, .int .i64 92251, .int .i64 1058969, .int .i64 47, .int .i64 4129] : Array Value)[k]? = some (.int .i64 (kP k)) := by
  match k, h with
  | 0, _ => rfl
  | 1, _ => rfl
  | 2, _ => rfl
  | 3, _ => rfl
  | 4, _ => rfl
theorem tabF (k : Nat) (h : k ≤ 4) : (#[Value.int .i64 0, .int .i64 65536, .int .i64 1048576, .int .i64 255, .int .i64 65535] : Array Value)[k]? = some (.int .i64 (kF k)) := by
  match k, h with
  | 0, _ => rfl
  | 1, _ => rfl
  | 2, _ => rfl
  | 3, _ => rfl
  | 4, _ => rfl
theorem tabE (k : Nat) (h : k ≤ 4) : (#[Value.int .i64 0, .int .i64 0, .int .i64 0, .int .i64 255, .int .i64 0] : Array Value)[k]? = some (.int .i64 (kE k)) := by
  match k, h with
  | 0, _ => rfl
  | 1, _ => rfl
  | 2, _ => rfl
  | 3, _ => rfl
  | 4, _ => rfl
theorem new_cell (W : World) (cs : Array Value) (t : TypeId) (k g : Nat) (hg : g = W.heap.size) : (W.alloc (.cells cs t)).cell? ⟨g, k, none⟩ = cs[k]? := by
  subst hg
  exact cell_of_row _ _ k _ _ _ (heap_alloc_new W _)

theorem up_lt {n a c : Nat} (h : n < 2 ^ a) (ha : a ≤ c) : n < 2 ^ c := Nat.lt_of_lt_of_le h (Nat.pow_le_pow_right (Nat.succ_pos 1) ha)
theorem sh_lt {n a k c : Nat} (h : n < 2 ^ a) (ha : a + k ≤ c) : n * 2 ^ k < 2 ^ c := by
  apply up_lt (a := a + k) _ ha
  rw [Nat.pow_add]
  exact Nat.mul_lt_mul_of_pos_right h (Nat.two_pow_pos k)
theorem crcT_lt {v s f n a e c : Nat} (hv : v < 2 ^ a) (hf : f < 2 ^ e) (h1 : a + s ≤ c) (h2 : e + n ≤ c) : v * 2 ^ s ^^^ f * 2 ^ n < 2 ^ c :=
  Nat.xor_lt_two_pow (sh_lt hv h1) (sh_lt hf h2)
theorem len_le {n L c : Nat} (hn : n < 2 ^ c) (h : L = 0 ∨ 2 ^ (L - 1) ≤ n) : L ≤ c := by
  rcases h with h | h
  · omega
  · rcases Nat.lt_or_ge c L with h' | h'
    · exact absurd (Nat.lt_of_le_of_lt (Nat.le_trans (Nat.pow_le_pow_right (Nat.succ_pos 1) (show c ≤ L - 1 by omega)) h) hn) (Nat.lt_irrefl _)
    · exact h'
theorem d_lt {s p : Nat} (hs : s ≤ 21) (hp : p < 2 ^ s) : 2 ^ s + p < 2 ^ 22 := by
  have : 2 ^ s ≤ 2 ^ 21 := Nat.pow_le_pow_right (Nat.succ_pos 1) hs
  omega
theorem IsInt.lt {w : World} {g n : Nat} (h : IsInt w g n) : g < w.heap.size := by
  obtain ⟨va, xs, hh, _⟩ := h
  rcases Nat.lt_or_ge g w.heap.size with h' | h'
  · exact h'
  · rw [Array.getElem?_eq_none h'] at hh; cases hh

set_option maxHeartbeats 16000000 in
theorem sumOf_any (kd : Nat) (b : ByteArray) (w : World) (h : w.cell? ⟨5, 1, none⟩ = some (.int .u8 1)) (hk : kd ≤ 4) (h1000 : b.size ≤ 1000) (hrow : rowB b.data.toList = true) :
    Calls Tryz.prog 44 #[.int .i64 kd, .string b] w fun e w' => e = .returned (.string ⟨(Bw.bitsHead (sumV kd b.data.toList) (kS kd) (kS kd)).toArray⟩) ∧ Below w.heap.size w w' := by
  have HH := Hid.mk h
  have HR := Hid.mk hrow
  have c1 := new_cell w #[Value.int .i64 15, .int .i64 17, .int .i64 21, .int .i64 8, .int .i64 16] 3 kd w.heap.size rfl
  have c2 := new_cell (w.alloc (.cells #[Value.int .i64 15, .int .i64 17, .int .i64 21, .int .i64 8, .int .i64 16] 3)) #[Value.int .i64 17817, .int .i64 92251, .int .i64 1058969, .int .i64 47, .int .i64 4129] 2 kd (w.heap.size + 1) (by simp)
  have c3 := new_cell ((w.alloc (.cells #[Value.int .i64 15, .int .i64 17, .int .i64 21, .int .i64 8, .int .i64 16] 3)).alloc (.cells #[Value.int .i64 17817, .int .i64 92251, .int .i64 1058969, .int .i64 47, .int .i64 4129] 2)) #[Value.int .i64 0, .int .i64 65536, .int .i64 1048576, .int .i64 255, .int .i64 65535] 2 kd (w.heap.size + 2) (by simp)
  have c4 := new_cell (((w.alloc (.cells #[Value.int .i64 15, .int .i64 17, .int .i64 21, .int .i64 8, .int .i64 16] 3)).alloc (.cells #[Value.int .i64 17817, .int .i64 92251, .int .i64 1058969, .int .i64 47, .int .i64 4129] 2)).alloc (.cells #[Value.int .i64 0, .int .i64 65536, .int .i64 1048576, .int .i64 255, .int .i64 65535] 2)) #[Value.int .i64 0, .int .i64 0, .int .i64 0, .int .i64 255, .int .i64 0] 2 kd (w.heap.size + 3) (by simp)
  rw [tabS kd hk] at c1
  rw [tabP kd hk] at c2
  rw [tabF kd hk] at c3
  rw [tabE kd hk] at c4
  obtain ⟨s8, s21, p1, hp, hf, he, hpb, hfb, heb⟩ := kinds_ok kd hk
  unfold sumV
  generalize kS kd = s at *
  generalize kP kd = p at *
  generalize kF kd = f at *
  generalize kE kd = en at *
  have HP := Hid.mk hp
  have HFF := Hid.mk hf
  have HEE := Hid.mk he
  have hk' : (kd : Int) < 5 := by omega
  have s8' : (8 : Int) ≤ (s : Int) := by omega
  have s21' : (s : Int) ≤ 21 := by omega
  clear h hrow hp hf he
  go_enter Tryz.func44, Tryz.ntmps44
  set_option maxRecDepth 100000 in
  go_wp2_with fail
  have hsz4 : ((((w.alloc (.cells #[Value.int .i64 15, .int .i64 17, .int .i64 21, .int .i64 8, .int .i64 16] 3)).alloc (.cells #[Value.int .i64 17817, .int .i64 92251, .int .i64 1058969, .int .i64 47, .int .i64 4129] 2)).alloc (.cells #[Value.int .i64 0, .int .i64 65536, .int .i64 1048576, .int .i64 255, .int .i64 65535] 2)).alloc (.cells #[Value.int .i64 0, .int .i64 0, .int .i64 0, .int .i64 255, .int .i64 0] 2)).heap.size = w.heap.size + 4 := by simp
  have hb4 : Below w.heap.size w ((((w.alloc (.cells #[Value.int .i64 15, .int .i64 17, .int .i64 21, .int .i64 8, .int .i64 16] 3)).alloc (.cells #[Value.int .i64 17817, .int .i64 92251, .int .i64 1058969, .int .i64 47, .int .i64 4129] 2)).alloc (.cells #[Value.int .i64 0, .int .i64 65536, .int .i64 1048576, .int .i64 255, .int .i64 65535] 2)).alloc (.cells #[Value.int .i64 0, .int .i64 0, .int .i64 0, .int .i64 255, .int .i64 0] 2)) :=
    ((((Below.refl _ w).alloc (Nat.le_refl _) _).alloc (by simp) _).alloc (by simp; omega) _).alloc (by simp; omega) _
  generalize ((((w.alloc (.cells #[Value.int .i64 15, .int .i64 17, .int .i64 21, .int .i64 8, .int .i64 16] 3)).alloc (.cells #[Value.int .i64 17817, .int .i64 92251, .int .i64 1058969, .int .i64 47, .int .i64 4129] 2)).alloc (.cells #[Value.int .i64 0, .int .i64 65536, .int .i64 1048576, .int .i64 255, .int .i64 65535] 2)).alloc (.cells #[Value.int .i64 0, .int .i64 0, .int .i64 0, .int .i64 255, .int .i64 0] 2)) = W4 at *
  clear c1 c2 c3 c4
  obtain ⟨gn, hgn⟩ : ∃ gn, gn = W4.heap.size := ⟨_, rfl⟩
  have hgw : w.heap.size ≤ gn := by rw [hgn]; exact hb4.size
  refine (value_row b W4 h1000 HR.out).mono ?_
  rintro e w5 ⟨rfl, hI5, hb5⟩
  rw [← hgn] at hI5 ⊢
  have hbel5 : Below w.heap.size w w5 := hb4.trans (hb5.mono hb4.size)
  have hl : b.data.toList.length = b.size := by simp
  have HV := Hid.mk (up_lt (c := 1000) (val_lt _ HR.out) (by omega))
  have hlsh6 := lsh_any gn gn (val b.data.toList) s w5 hI5 hI5.struct (up_lt (a := 1000) (c := 5000) HV.out (by omega)) (by omega)
  have HL6 := Hid.mk hlsh6
  have HLL := Hid.mk hl
  have hgn5 := hI5.lt
  clear hlsh6 hI5 hb5 hb4 hsz4 hgn hl
  go_wp2_with fail
  refine HL6.out.mono ?_
  rintro e w6 ⟨rfl, hI6, ht6⟩
  have hbel6 : Below w.heap.size w w6 := hbel5.trans (ht6.below hgw hbel5.size)
  have HI6 := Hid.mk hI6
  have hgn6 := hI6.lt
  clear hI6 ht6 hbel5 HL6 hgn5
  go_wp2_with fail
  refine (newInt_any f w6 (by omega)).mono ?_
  rintro e w7 ⟨rfl, hI7, hb7⟩
  have hIn7 := HI6.out.below hb7
  have hbel7 : Below w.heap.size w w7 := hbel6.trans (hb7.mono hbel6.size)
  have hlsh8 := lsh_any w6.heap.size w6.heap.size f b.size w7 hI7 hI7.struct (up_lt (a := 21) (c := 5000) (Nat.lt_of_le_of_lt hfb (by decide)) (by omega)) (by omega)
  have HL8 := Hid.mk hlsh8
  have HI7 := Hid.mk hI7
  have HIn7 := Hid.mk hIn7
  clear hlsh8 hI7 hIn7 hb7 HI6
  go_wp2_with fail
  refine HL8.out.mono ?_
  rintro e w8 ⟨rfl, hI8, ht8⟩
  have hIn8 := HIn7.out.touch (by omega) HI7.out.struct ht8
  have hbel8 : Below w.heap.size w w8 := hbel7.trans (ht8.below hbel6.size hbel7.size)
  have hx9 := xor_any gn gn w6.heap.size _ _ w8 hIn8 hI8 hIn8.struct (sh_lt (a := 1000) (c := 5000) HV.out (by omega)) (sh_lt (a := 21) (c := 5000) (n := f) (Nat.lt_of_le_of_lt hfb (by decide)) (by omega))
  have HX9 := Hid.mk hx9
  clear hx9 hI8 hIn8 ht8 hbel7 hbel6 HL8 HI7 HIn7
  go_wp2_with fail
  refine HX9.out.mono ?_
  rintro e w9 ⟨rfl, hI9, ht9⟩
  have hbel9 : Below w.heap.size w w9 := hbel8.trans (ht9.below hgw hbel8.size)
  rw [← HLL.out] at hI9
  obtain ⟨T, hT⟩ : ∃ T, T = crcT s f b.data.toList := ⟨_, rfl⟩
  have hI9' : IsInt w9 gn T := by rw [hT]; exact hI9
  have HTB := Hid.mk (crcT_lt (s := s) (n := b.size) (e := 21) (c := 1100) HV.out (Nat.lt_of_le_of_lt hfb (by decide)) (by omega) (by omega))
  rw [← HLL.out, ← crcT, ← hT] at HTB
  have HI9 := Hid.mk hI9'
  have HT := Hid.mk hT
  have hgn9 := hI9.lt
  clear hI9 hI9' ht9 hbel8 HX9 hT hgn6
  go_wp2_with fail
  refine (newInt_any p w9 (by omega)).mono ?_
  rintro e w10 ⟨rfl, hI10, hb10⟩
  have hIn10 := HI9.out.below hb10
  have hbel10 : Below w.heap.size w w10 := hbel9.trans (hb10.mono hbel9.size)
  have hsb := setBit_any w9.heap.size w9.heap.size p s w10 hI10 hI10.struct p1 HP.out (by omega)
  have HSB := Hid.mk hsb
  have HI10 := Hid.mk hI10
  have HIn10 := Hid.mk hIn10
  clear hsb hI10 hIn10 hb10 HI9
  go_wp2_with fail
  refine HSB.out.mono ?_
  rintro e w11 ⟨rfl, hI11, ht11⟩
  have hIn11 := HIn10.out.touch (by omega) HI10.out.struct ht11
  have hg3 : w.heap.size ≤ w9.heap.size := hbel9.size
  have hbel11 : Below w.heap.size w w11 := hbel10.trans (ht11.below hg3 hbel10.size)
  obtain ⟨g3, hg3E⟩ : ∃ g3, g3 = w9.heap.size := ⟨_, rfl⟩
  rw [← hg3E] at hI11 hgn9 hg3 ⊢
  have HI11 := Hid.mk hI11
  have HIn11 := Hid.mk hIn11
  clear hI11 hIn11 ht11 hbel10 hbel9 HSB HI10 HIn10 hg3E
  go_wp2_with fail
  go_loopw [54] (fun _ wr => ∃ n : Nat, IsInt wr gn n ∧ IsInt wr g3 (2 ^ s + p) ∧ Hid (n < 2 ^ 1100) ∧ Mul (2 ^ s + p) (n ^^^ T) ∧ Below w.heap.size w wr) (fun _ wr => valAt wr gn)
  case atStart => exact ⟨T, HIn11.out, HI11.out, HTB, by rw [Nat.xor_self]; exact Mul.zero _, hbel11⟩
  case round =>
    clear hbel11 HI11 HIn11 HTB
    obtain ⟨n, hIn, hI3, HNB, hmul, hbel⟩ := hrel
    have hbl := bitLen_any gn n wr hIn (up_lt (a := 1100) (c := 5000) HNB.out (by omega))
    have HBL := Hid.mk hbl
    have HIN := Hid.mk hIn
    have HI3 := Hid.mk hI3
    have HMUL := Hid.mk hmul
    have hgnr := hIn.lt
    have hg3r := hI3.lt
    clear hbl hIn hI3 hmul
    go_wp2_with fail
    refine HBL.out.mono ?_
    rintro e w1 ⟨L, rfl, hL1, hL2, hL3, hw1⟩
    subst hw1
    have HL1 := Hid.mk hL1
    have HL2 := Hid.mk hL2
    clear hL1 hL2 HBL
    by_cases hLs : s < L
    · have hLs' : (s : Int) < (L : Int) := by omega
      have hL3' : (L : Int) ≤ 6000 := by omega
      have hba : Below w1.heap.size w1 (w1.alloc (.cells #[.bool false, .slice none 0 0] 110)) := (Below.refl _ _).alloc (Nat.le_refl _) _
      have hbl := bitLen_any gn n _ (HIN.out.below hba) (up_lt (a := 1100) (c := 5000) HNB.out (by omega))
      have HBL := Hid.mk hbl
      have hL5 : L ≤ 1100 := len_le (c := 1100) HNB.out HL2.out
      clear hbl
      go_wp2_with fail
      refine HBL.out.mono ?_
      rintro e w2 ⟨L', rfl, hK1, hK2, hK3, hw2⟩
      have hLL := len_uniq HL1.out HL2.out hK1 hK2
      subst hLL
      have hs2 : isStruct w2 w1.heap.size := ⟨false, none, 0, 0, by rw [hw2]; exact heap_alloc_new w1 _⟩
      have hba2 : Below w1.heap.size w1 w2 := by rw [hw2]; exact hba
      have hI32 := HI3.out.below hba2
      have hIn2 := HIN.out.below hba2
      have hlsh := lsh_any w1.heap.size g3 (2 ^ s + p) (L - s - 1) w2 hI32 hs2 (up_lt (a := 22) (c := 5000) (d_lt s21 HP.out) (by omega)) (by omega)
      have HLS := Hid.mk hlsh
      have HIn2 := Hid.mk hIn2
      have HI32 := Hid.mk hI32
      have HS2 := Hid.mk hs2
      have hcast : (L : Int) - (s : Int) - 1 = ((L - s - 1 : Nat) : Int) := by omega
      have HCA := Hid.mk hcast
      clear hK1 hK2 hK3 hw2 hs2 hI32 hIn2 hlsh hba HBL hcast
      go_wp2_with fail
      rw [HCA.out]
      refine HLS.out.mono ?_
      rintro e w3 ⟨rfl, hI4, ht4⟩
      have hn4 : gn ≠ w1.heap.size := by omega
      have h34 : g3 ≠ w1.heap.size := by omega
      have hIn3 := HIn2.out.touch hn4 HS2.out ht4
      have hI33 := HI32.out.touch h34 HS2.out ht4
      have hbel3 : Below w.heap.size w w3 := (hbel.trans (hba2.mono hbel.size)).trans (ht4.below hbel.size (Nat.le_trans hbel.size hba2.size))
      have hx := xor_any gn gn w1.heap.size n _ w3 hIn3 hI4 hIn3.struct (up_lt (a := 1100) (c := 5000) HNB.out (by omega)) (sh_lt (a := 22) (c := 5000) (d_lt s21 HP.out) (by omega))
      have HX := Hid.mk hx
      have HI33 := Hid.mk hI33
      have HIn3 := Hid.mk hIn3
      clear hx hI4 ht4 hIn3 hI33 HLS HS2
      go_wp2_with fail
      refine HX.out.mono ?_
      rintro e w4 ⟨rfl, hI5, ht5⟩
      have hI35 := HI33.out.touch (by omega) HIn3.out.struct ht5
      have hbel4 : Below w.heap.size w w4 := hbel3.trans (ht5.below hgw hbel3.size)
      have hge : 2 ^ (L - 1) ≤ n := by rcases HL2.out with h | h; omega; exact h
      have hred := red_lt HL1.out hge hLs HP.out
      have hmul2 := red_mul (L := L) HMUL.out
      have hm1 := valAt_eq hI5
      have hm2 := valAt_eq HIN.out
      have HI5 := Hid.mk hI5
      have HI35 := Hid.mk hI35
      have HRED := Hid.mk hred
      have HGE := Hid.mk hge
      have HMU2 := Hid.mk hmul2
      have HM1 := Hid.mk hm1
      have HM2 := Hid.mk hm2
      clear hI5 hI35 hge hred hmul2 hm1 hm2 ht5 HX
      go_wp2_with fail
      go_roundw
      case rel => exact ⟨_, HI5.out, HI35.out, Hid.mk (up_lt (a := L - 1) (c := 1100) HRED.out (by omega)), HMU2.out, hbel4⟩
      case measure => rw [HM1.out, HM2.out]; exact Nat.lt_of_lt_of_le HRED.out HGE.out
    · have hLs' : (L : Int) ≤ (s : Int) := by omega
      have hns : n < 2 ^ s := up_lt HL1.out (by omega)
      have hfin := crc_uniq s p f n (by omega) HP.out HFF.out b.data.toList HR.out hns (by rw [← HT.out]; exact HMUL.out)
      subst hfin
      have HNS := Hid.mk hns
      clear hns
      go_wp2_with fail
      refine (newInt_any en w1 (by omega)).mono ?_
      rintro e w2 ⟨rfl, hI2, hb2⟩
      have hIn2 := HIN.out.below hb2
      have hbel2 : Below w.heap.size w w2 := hbel.trans (hb2.mono hbel.size)
      have hx := xor_any gn gn w1.heap.size _ en w2 hIn2 hI2 hIn2.struct (up_lt (a := s) (c := 5000) HNS.out (by omega)) (up_lt (a := s) (c := 5000) HEE.out (by omega))
      have HX := Hid.mk hx
      clear hx hI2 hIn2 hb2
      go_wp2_with fail
      refine HX.out.mono ?_
      rintro e w3 ⟨rfl, hI3, ht3⟩
      have hbel3 : Below w.heap.size w w3 := hbel2.trans (ht3.below hgw hbel2.size)
      have hVb : crcR s p f b.data.toList ^^^ en < 2 ^ s := Nat.xor_lt_two_pow HNS.out HEE.out
      obtain ⟨V, hV⟩ : ∃ V, V = crcR s p f b.data.toList ^^^ en := ⟨_, rfl⟩
      rw [← hV] at hI3 hVb
      have HVE := Hid.mk hV
      have hi64 := int64_any gn V w3 hI3 (up_lt (a := s) (c := 62) hVb (by omega))
      have HI64 := Hid.mk hi64
      have hro := fun W hW => rowOf_fit V s W hW (by omega) hVb
      have HRO := Hid.mk hro
      clear hi64 hro hI3 ht3 hbel2 HX hV hVb
      go_wp2_with fail
      refine HI64.out.mono ?_
      rintro e w4 ⟨rfl, hw4⟩
      subst hw4
      go_wp2_with fail
      refine (HRO.out _ (Bw.cell_kept hbel3 HH.out)).mono ?_
      rintro e w5 ⟨rfl, hb5⟩
      go_wp2_with fail
      go_ret
      exact ⟨by rw [← HVE.out]; try rfl, hbel3.trans (hb5.mono hbel3.size)⟩
end Ww
end Go.Proofs.YtemohjamcdkcmaaGreatDoor
