/- Joined out of our texts: Wired, WfirstLaw, SizesRow, RulesRow, BruijnRow, WfirstWalk. -/
import Derived.Test.YtdhmjbnpdmneiadDoorLawWireFirstPAH
import Derived.Test.YtdhmjbnpdmneiadDoorLawWireFirstPAA
import Derived.Test.YtdhmjbnpdmneiadDoorLawWireFirstRAJ
import Derived.Test.YtdhmjbnpdmneiadDoorLawWireFirstPAC
import Derived.Test.YtdhmjbnpdmneiadDoorRows
import Derived.Lib.LaidU8
import Derived.Test.YtdhmjbnpdmneiadDoorLawWireFirstPAD
import Derived.Test.YtdhmjbnpdmneiadDoorIsRow
import Derived.Test.YtdhmjbnpdmneiadDoorRefFrame
/- The closed fact that each law of the wire asks for: two frames at a time. -/
namespace Go.Proofs.YtdhmjbnpdmneiadDoor
open Go.ChangeShapes Go.WideShapes Go.ChangeAt Go.RowKit
namespace Bw
open Bm Cm
def w6 : FrV := ⟨⟨6, false, false, false, 0, []⟩, none, 0, 0⟩
def w5 : FrV := ⟨⟨5, false, false, false, 0, []⟩, none, 0, 0⟩
theorem w65_send : sendE [w6, w5] = 0 := by decide +kernel
theorem w65_best : bestL [w6, w5] = bitsL w5.f := by decide +kernel
theorem w65_difs : difsL [w6, w5] = [11, -1] := by decide +kernel
theorem w5_ok : frE w5.f = 0 := by decide +kernel
def w65C : Obj := .cells #[.int .i64 6, .bool false, .bool false, .bool false, .int .i64 0, .slice none 0 0, .int .i64 5, .bool false, .bool false, .bool false, .int .i64 0, .slice none 0 0] 30
theorem w65_frames (w : World) : IsFrames (w.alloc w65C) (some ⟨w.heap.size, 0, none⟩) 2 2 [w6, w5] := by
  refine ⟨rfl, Nat.le_refl _, by unfold maxLen; decide, (fun h => by cases h), ?_, ?_⟩
  · intro x hx i hi k hk
    cases hx
    have e : ∀ j, (Addr.add ⟨w.heap.size, 0, none⟩ j) = ⟨w.heap.size, j, none⟩ := by intro j; simp [Addr.add]; exact fun h => h.symm
    rw [e, cell_of_row _ _ _ _ _ _ (heap_alloc_new w w65C)]
    have hi2 : i < 2 := hi
    match i, hi2, k, hk with
    | 0, _, 0, _ => rfl
    | 0, _, 1, _ => rfl
    | 0, _, 2, _ => rfl
    | 0, _, 3, _ => rfl
    | 0, _, 4, _ => rfl
    | 0, _, 5, _ => rfl
    | 1, _, 0, _ => rfl
    | 1, _, 1, _ => rfl
    | 1, _, 2, _ => rfl
    | 1, _, 3, _ => rfl
    | 1, _, 4, _ => rfl
    | 1, _, 5, _ => rfl
  · intro i hi
    have hi2 : i < 2 := hi
    match i, hi2 with
    | 0, _ => exact ⟨rfl, Nat.le_refl _, Nat.zero_le _, fun _ => rfl, fun x hx => by cases hx⟩
    | 1, _ => exact ⟨rfl, Nat.le_refl _, Nat.zero_le _, fun _ => rfl, fun x hx => by cases hx⟩
def n11C : Obj := .cells #[.int .i64 11, .int .i64 (-1)] 3
theorem n11_nums (w : World) : NumsAt (w.alloc n11C) w.heap.size 0 [11, -1] := by
  intro i hi
  rw [Nat.zero_add, cell_of_row _ _ _ _ _ _ (heap_alloc_new w n11C)]
  have hi2 : i < 2 := hi
  match i, hi2 with
  | 0, _ => rfl
  | 1, _ => rfl
set_option maxHeartbeats 8000000 in
theorem wired_any (w : World) (hS : SizesAt w) (hR : RulesAt w) :
    Calls Tryd.prog 8 #[] w fun e w' => e = .returned (.bool true) ∧ Below w.heap.size w w' := by
  have hB0 : Below w.heap.size w (w.alloc w65C) := (Below.refl _ _).alloc (Nat.le_refl _) _
  have a1 := (send_any (some ⟨w.heap.size, 0, none⟩) 2 2 [w6, w5] _ (hS.kept hB0) (hR.kept hB0) (w65_frames w)).mono (fun _ _ h => And.intro (h.2.1 w65_send) h.2.2)
  rw [w65_best, w65_difs] at a1
  have e1 : idxG ([11, -1] : List Int) (-1) = 1 := by decide
  rw [e1] at a1
  have a2 := fun W h1 h2 => frBits_ok w5.f none 0 0 W h1 h2 ⟨rfl, Nat.le_refl _, Nat.zero_le _, fun _ => rfl, fun x hx => by cases hx⟩ w5_ok
  have a3 := fun W g h h1 h2 => equalN_true W g h 2 2 2 [11, -1] rfl (by decide) h1 h2
  have h11 := fun W => n11_nums W
  have b11 : ∀ W : World, Below W.heap.size W (W.alloc n11C) := fun W => (Below.refl _ _).alloc (Nat.le_refl _) _
  generalize ByteArray.mk (bitsL w5.f).toArray = X at *
  unfold w65C at a1 hB0
  unfold frameV w5 at a2
  unfold n11C at h11 b11
  simp only at a2
  have HA1 := Hid.mk a1
  have HA2 := Hid.mk a2
  have HA3 := Hid.mk a3
  have H11 := Hid.mk h11
  have B11 := Hid.mk b11
  have HB := Hid.mk hB0
  have HS := Hid.mk hS
  have HR := Hid.mk hR
  clear a1 a2 a3 h11 b11 hB0 hS hR e1
  go_enter Tryd.func8, Tryd.ntmps8
  go_wp2_with fail
  refine HA1.out.mono ?_
  rintro e w1 ⟨⟨g, rfl, hown⟩, hb1⟩
  have HB1 := Hid.mk (bl2 HB.out hb1)
  have HO := Hid.mk hown
  clear hown hb1
  go_wp2_with fail
  refine (HA2.out _ (HS.out.kept HB1.out) (HR.out.kept HB1.out)).mono ?_
  rintro e w2 ⟨rfl, hb2⟩
  have HB2 := Hid.mk (bl2 HB1.out hb2)
  have HO2 := Hid.mk (ownsRow_below HO.out hb2)
  clear hb2
  go_wp2_with fail
  refine (HA3.out _ _ _ (nums_of (HO2.out.alloc _)) (H11.out _)).mono ?_
  rintro e w3 ⟨rfl, hb3⟩
  have HB3 := Hid.mk (bl2 (bl2 HB2.out (B11.out _)) hb3)
  clear hb3
  go_wp2_with fail
  go_ret
  exact ⟨rfl, HB3.out⟩
end Bw
end Go.Proofs.YtdhmjbnpdmneiadDoor

/- The law WireFirst: of any frames the one whose name comes first is told, errors too. -/
namespace Go.Proofs.YtdhmjbnpdmneiadDoor
open Go.ChangeShapes Go.WideShapes Go.ChangeAt Go.RowKit
namespace Bw
open Bm Cm
set_option maxHeartbeats 4000000 in
theorem wfirst_many (a : Option Addr) (n cap : Nat) (w : World) (hS : SizesAt w) (hR : RulesAt w) (h : 6 < n) :
    Calls Tryd.prog 3 #[.slice a n cap] w fun e w' => e = .returned (.bool true) ∧ Below w.heap.size w w' := by
  have HA1 := Hid.mk (first_many a n cap w h)
  have HA2 := Hid.mk (fun W h1 h2 => wired_any W h1 h2)
  have HS := Hid.mk hS
  have HR := Hid.mk hR
  have h2 : (6 : Int) < (n : Int) := by omega
  clear hS hR
  go_enter Tryd.func3, Tryd.ntmps3
  go_wp2_with fail
  refine HA1.out.mono ?_
  rintro e w1 ⟨rfl, hw⟩
  subst hw
  go_wp2_with fail
  refine (HA2.out _ HS.out HR.out).mono ?_
  rintro e w2 ⟨rfl, hb2⟩
  have HB2 := Hid.mk hb2
  clear hb2
  go_wp2_with fail
  refine (HA2.out _ (HS.out.kept HB2.out) (HR.out.kept HB2.out)).mono ?_
  rintro e w3 ⟨rfl, hb3⟩
  have HB3 := Hid.mk (bl2 HB2.out hb3)
  clear hb3
  go_wp2_with fail
  go_ret
  exact ⟨rfl, HB3.out⟩
set_option maxHeartbeats 8000000 in
theorem wfirst_none (a : Option Addr) (cap : Nat) (l : List FrV) (w : World) (hS : SizesAt w) (hR : RulesAt w) (hF : IsFrames w a 0 cap l) :
    Calls Tryd.prog 3 #[.slice a 0 cap] w fun e w' => e = .returned (.bool true) ∧ Below w.heap.size w w' := by
  have HA1 := Hid.mk (first_none a 0 cap l w hS hF rfl)
  have HA2 := Hid.mk (fun W h1 h2 => wired_any W h1 h2)
  have HS := Hid.mk hS
  have HR := Hid.mk hR
  clear hF hS hR
  go_enter Tryd.func3, Tryd.ntmps3
  go_wp2_with fail
  refine HA1.out.mono ?_
  rintro e w1 ⟨rfl, hb1⟩
  have HB1 := Hid.mk hb1
  clear hb1
  go_wp2_with fail
  refine (HA2.out _ (HS.out.kept HB1.out) (HR.out.kept HB1.out)).mono ?_
  rintro e w2 ⟨rfl, hb2⟩
  have HB2 := Hid.mk (bl2 HB1.out hb2)
  clear hb2 HB1 HA1 HA2
  go_wp2_with fail
  go_loopw [36] (fun i wr => i = .int .i64 0 ∧ wr = w2) (fun _ _ => 0)
  case atStart => exact ⟨rfl, rfl⟩
  case round =>
    obtain ⟨rfl, hwr⟩ := hrel
    subst hwr
    go_wp2_with fail
    go_ret
    exact ⟨rfl, HB2.out⟩
set_option maxHeartbeats 8000000 in
set_option maxRecDepth 100000 in
theorem wfirst_bad (hCF : CheckF) (a : Option Addr) (n cap : Nat) (l : List FrV) (w : World) (hS : SizesAt w) (hR : RulesAt w) (hD : w.cell? ⟨6, 1, none⟩ = some (.int .u8 1)) (hF : IsFrames w a n cap l) (h6 : n ≤ 6) (hz : firE (l.map (·.f)) ≠ 0) :
    Calls Tryd.prog 3 #[.slice a n cap] w fun e w' => e = .returned (.bool true) ∧ Below w.heap.size w w' := by
  obtain ⟨i0, hi, hz0, hz1, hz2⟩ := info_parts info_str
  have HA1 := Hid.mk (first_bad a n cap l w hS hF h6 hz)
  generalize hce : firE (l.map (·.f)) = ce at *
  have HCE := Hid.mk hce
  have HNZ := Hid.mk hz
  clear hce
  have HA2 := Hid.mk (fun W h1 h2 => wired_any W h1 h2)
  have HCF := Hid.mk hCF
  have HF := Hid.mk hF
  have HS := Hid.mk hS
  have HR := Hid.mk hR
  have HD := Hid.mk hD
  have h6' : (n : Int) ≤ 6 := by omega
  clear hF hS hR hD hz hCF
  go_enter Tryd.func3, Tryd.ntmps3
  go_wp2_with fail
  refine HA1.out.mono ?_
  rintro e w1 ⟨rfl, hb1⟩
  have HB1 := Hid.mk hb1
  clear hb1
  go_wp2_with fail
  refine (HA2.out _ (HS.out.kept HB1.out) (HR.out.kept HB1.out)).mono ?_
  rintro e w2 ⟨rfl, hb2⟩
  have HB2 := Hid.mk (bl2 HB1.out hb2)
  clear hb2 HB1 HA1 HA2
  go_wp2_with fail
  go_loopw [5, 36] (fun r i wr => ∃ k : Nat, k ≤ n ∧ i = .int .i64 k ∧ Hid (wr.ownsRow w.heap.size 9 1 r k (strC ((l.take k).map fun v => nameL v.f))) ∧ Hid (∀ v ∈ l.take k, frE v.f = 0) ∧ Hid (Below w.heap.size w wr)) (fun _ i _ => n - (intOf i).toNat)
  case atStart => exact ⟨0, Nat.zero_le _, rfl, Hid.mk (by simpa [strC] using World.ownsRow_nil _ _ _ _), Hid.mk (by simp), HB2⟩
  case round =>
    clear HB2
    obtain ⟨k, hk, rfl, HO, HZ, HB⟩ := hrel
    by_cases hlt : k < n
    · have hlt' : (k : Int) < (n : Int) := by omega
      have hkl : k < l.length := by rw [HF.out.len]; exact hlt
      cases a with
      | none => exact absurd (HF.out.none rfl) (by omega)
      | some x =>
        have cc := fun (j : Nat) (hj : j < 6) => cell_kept HB.out (HF.out.cell x rfl k hkl j hj)
        have hby := isBytes_below (HF.out.bytes k hkl) (show Below w.heap.size w wr from HB.out)
        have hfir := firE_take l k hkl HZ.out
        have hall := take_all hkl HZ.out
        have htk : strC ((l.take (k + 1)).map fun v => nameL v.f) = strC ((l.take k).map fun v => nameL v.f) ++ [.string ⟨(nameL l[k].f).toArray⟩] := by
          rw [List.take_succ_eq_append_getElem hkl, List.map_append, strC_append]; rfl
        generalize l[k] = v at *
        obtain ⟨f, fa, fl, fc⟩ := v
        have c0 := cc 0 (by omega)
        have c1 := cc 1 (by omega)
        have c2 := cc 2 (by omega)
        have c3 := cc 3 (by omega)
        have c4 := cc 4 (by omega)
        have c5 := cc 5 (by omega)
        rw [add_next] at c1 c2 c3 c4 c5
        rw [Nat.add_zero] at c0
        simp only [FrV.cells, List.getElem_cons_zero, List.getElem_cons_succ, Nat.reduceAdd] at c0 c1 c2 c3 c4 c5
        simp only at hby hfir hall htk
        have hbx := below_box wr f.id f.lo f.fa f.re f.sz fa fl fc
        have hby2 := isBytes_below hby hbx
        have hB2 := bl2 HB.out hbx
        have ha := HCF.out.fr f fa fl fc _ hby2
        have HK2 := Hid.mk (FrAt.box wr f.id f.lo f.fa f.re f.sz fa fl fc)
        have HY2 := Hid.mk hby2
        have HO2 := Hid.mk (HO.out.alloc (frameC f.id f.lo f.fa f.re f.sz fa fl fc))
        have HB2 := Hid.mk hB2
        have HFI := Hid.mk hfir
        have HAL := Hid.mk hall
        have HTK := Hid.mk htk
        clear cc hfir hall htk hby hby2 hbx hB2
        unfold frameC at ha HO2 HB2 HK2 HY2
        unfold frameV at ha
        by_cases hE : frE f = 0
        · have hE2 := frE_ok hE
          have hnm := fun W hW => nameOf_any f fa fl fc W hW hE2.1 hE2.2.1
          unfold frameV at hnm
          rw [hE] at ha
          have HA := Hid.mk ha
          have HNM := Hid.mk hnm
          have HE := Hid.mk hE
          generalize ByteArray.mk (nameL f).toArray = X at *
          clear ha hE hE2 hnm
          go_wp2_with fail
          refine HA.out.mono ?_
          rintro e w3 ⟨rfl, hb3⟩
          have HO3 := Hid.mk (ownsRow_below HO2.out hb3)
          have HB3 := Hid.mk (bl2 HB2.out hb3)
          obtain ⟨k0, k1, k2, k3, k4, k5⟩ := HK2.out.kept hb3
          clear hb3 HO2 HB2 HO HB HA HK2 HY2
          go_wp2_with fail
          refine (HNM.out _ (cell_kept HB3.out HD.out)).mono ?_
          rintro e w4 ⟨rfl, hb4⟩
          have HO4 := Hid.mk (ownsRow_below HO3.out hb4)
          have HB4 := Hid.mk (bl2 HB3.out hb4)
          clear hb4 HO3 HB3 HNM k0 k1 k2 k3 k4 k5
          go_wp2_with (at_builtin; refine wpList_append_own _ rfl (.tmp 51) (.tmp 54) 27 rfl w.heap.size 9 i0 (.string ⟨#[]⟩) 1 16 Tryd.underlying27 hi hz0 hz1 hz2 rfl (by decide) _ _ _ rfl (HO4.out.alloc _) ⟨w4.heap.size, 0, none⟩ 1 1 [Value.string X] rfl rfl (by intro q u hq; match q, hq with | 0, hq => (simp at hq; subst hq; simp [Addr.add])) (by intro u hu; simp at hu; subst hu; rfl) (by unfold maxLen; omega) (by omega) (by have := HB4.out.size; simp; omega) ?_; intro v3 w5 hown3 hgrow3 _)
          have hB5 : Below w.heap.size w w5 := Below.grown (HB4.out.alloc HB4.out.size _) hgrow3 (by have := HB4.out.size; simp; omega) (fun q hq => (HO4.out.lt q hq).1)
          rw [← HTK.out] at hown3
          clear hgrow3
          go_roundw
          case rel => exact ⟨k + 1, by omega, by go_num, Hid.mk hown3, Hid.mk (HAL.out HE.out), Hid.mk hB5⟩
          case measure => simp [intOf]; omega
        · have HE := Hid.mk ((HFI.out hE).symm.trans HCE.out)
          have hne : (frE f != 0) = true := by simpa using hE
          have hq : (ce == frE f) = true := by rw [HE.out]; simp
          have HA := Hid.mk ha
          clear ha hE
          generalize frE f = cf at *
          go_wp2_with fail
          refine HA.out.mono ?_
          rintro e w3 ⟨rfl, hb3⟩
          have HB3 := Hid.mk (bl2 HB2.out hb3)
          clear hb3 HO2 HB2 HO HB HA
          go_wp2_with fail
          go_ret
          exact ⟨rfl, HB3.out⟩
    · exfalso
      have e : k = n := by omega
      subst e
      have hz := HZ.out
      rw [List.take_of_length_le (by have := HF.out.len; omega)] at hz
      exact HNZ.out (HCE.out.symm.trans ((firE_zero _).2 (fun f hf => by
        obtain ⟨v, hv, rfl⟩ := List.mem_map.1 hf
        exact hz v hv)))
set_option maxHeartbeats 8000000 in
set_option maxRecDepth 100000 in
theorem wfirst_ok (hCF : CheckF) (a : Option Addr) (n cap : Nat) (l : List FrV) (w : World) (hS : SizesAt w) (hR : RulesAt w) (hD : w.cell? ⟨6, 1, none⟩ = some (.int .u8 1)) (hF : IsFrames w a n cap l) (h6 : n ≤ 6) (hz : firE (l.map (·.f)) = 0) (h0 : 0 < n) :
    Calls Tryd.prog 3 #[.slice a n cap] w fun e w' => e = .returned (.bool true) ∧ Below w.heap.size w w' := by
  obtain ⟨i0, hi, hz0, hz1, hz2⟩ := info_parts info_str
  have HA1 := Hid.mk (first_ok a n cap l w hS hF h0 h6 hz)
  have hrl : (namesL l).length = n := by rw [namesL, List.length_map, hF.len]
  have hmem : minL (namesL l) ∈ namesL l := (minL_least (namesL l) (fun h => by rw [h] at hrl; simp at hrl; omega)).1
  have HOE := Hid.mk (onlyE_rows hmem)
  have HON := Hid.mk (show onlyN (namesL l) (minL (namesL l)) = if onlyE (namesL l) (minL (namesL l)) = 0 then idxG (namesL l) (minL (namesL l)) else 0 from rfl)
  have HRL := Hid.mk hrl
  have HZA := Hid.mk (show ∀ v ∈ l, frE v.f = 0 from fun v hv => (firE_zero _).1 hz v.f (List.mem_map.2 ⟨v, hv, rfl⟩))
  have HM := Hid.mk (fun g c W hX => minS_any g n c (namesL l) W hrl h0 (by omega) hX)
  have HI := Hid.mk (fun g c W hX => indexS g 0 n c (namesL l) (minL (namesL l)) W hrl (by omega) hX)
  obtain ⟨BT, hBT⟩ : ∃ BT : ByteArray, BT = ⟨(minL (namesL l)).toArray⟩ := ⟨_, rfl⟩
  rw [← hBT] at HM HI
  have HBT := Hid.mk hBT
  clear hrl hmem hBT
  generalize onlyN (namesL l) (minL (namesL l)) = oN at *
  generalize onlyE (namesL l) (minL (namesL l)) = oE at *
  have HA2 := Hid.mk (fun W h1 h2 => wired_any W h1 h2)
  have HCF := Hid.mk hCF
  have HF := Hid.mk hF
  have HS := Hid.mk hS
  have HR := Hid.mk hR
  have HD := Hid.mk hD
  have h6' : (n : Int) ≤ 6 := by omega
  clear hF hS hR hD hz hCF
  go_enter Tryd.func3, Tryd.ntmps3
  go_wp2_with fail
  refine HA1.out.mono ?_
  rintro e w1 ⟨rfl, hb1⟩
  have HB1 := Hid.mk hb1
  clear hb1
  go_wp2_with fail
  refine (HA2.out _ (HS.out.kept HB1.out) (HR.out.kept HB1.out)).mono ?_
  rintro e w2 ⟨rfl, hb2⟩
  have HB2 := Hid.mk (bl2 HB1.out hb2)
  clear hb2 HB1 HA1 HA2
  go_wp2_with fail
  go_loopw [5, 36] (fun r i wr => ∃ k : Nat, k ≤ n ∧ i = .int .i64 k ∧ Hid (wr.ownsRow w.heap.size 9 1 r k (strC ((l.take k).map fun v => nameL v.f))) ∧ Hid (∀ v ∈ l.take k, frE v.f = 0) ∧ Hid (Below w.heap.size w wr)) (fun _ i _ => n - (intOf i).toNat)
  case atStart => exact ⟨0, Nat.zero_le _, rfl, Hid.mk (by simpa [strC] using World.ownsRow_nil _ _ _ _), Hid.mk (by simp), HB2⟩
  case round =>
    clear HB2
    obtain ⟨k, hk, rfl, HO, HZ, HB⟩ := hrel
    by_cases hlt : k < n
    · have hlt' : (k : Int) < (n : Int) := by omega
      have hkl : k < l.length := by rw [HF.out.len]; exact hlt
      cases a with
      | none => exact absurd (HF.out.none rfl) (by omega)
      | some x =>
        have cc := fun (j : Nat) (hj : j < 6) => cell_kept HB.out (HF.out.cell x rfl k hkl j hj)
        have hby := isBytes_below (HF.out.bytes k hkl) (show Below w.heap.size w wr from HB.out)
        have hfir := firE_take l k hkl HZ.out
        have hall := take_all hkl HZ.out
        have htk : strC ((l.take (k + 1)).map fun v => nameL v.f) = strC ((l.take k).map fun v => nameL v.f) ++ [.string ⟨(nameL l[k].f).toArray⟩] := by
          rw [List.take_succ_eq_append_getElem hkl, List.map_append, strC_append]; rfl
        have hEz := HZA.out l[k] (List.getElem_mem hkl)
        generalize l[k] = v at *
        obtain ⟨f, fa, fl, fc⟩ := v
        have c0 := cc 0 (by omega)
        have c1 := cc 1 (by omega)
        have c2 := cc 2 (by omega)
        have c3 := cc 3 (by omega)
        have c4 := cc 4 (by omega)
        have c5 := cc 5 (by omega)
        rw [add_next] at c1 c2 c3 c4 c5
        rw [Nat.add_zero] at c0
        simp only [FrV.cells, List.getElem_cons_zero, List.getElem_cons_succ, Nat.reduceAdd] at c0 c1 c2 c3 c4 c5
        simp only at hby hfir hall htk
        have hbx := below_box wr f.id f.lo f.fa f.re f.sz fa fl fc
        have hby2 := isBytes_below hby hbx
        have hB2 := bl2 HB.out hbx
        have ha := HCF.out.fr f fa fl fc _ hby2
        have HK2 := Hid.mk (FrAt.box wr f.id f.lo f.fa f.re f.sz fa fl fc)
        have HY2 := Hid.mk hby2
        have HO2 := Hid.mk (HO.out.alloc (frameC f.id f.lo f.fa f.re f.sz fa fl fc))
        have HB2 := Hid.mk hB2
        have HFI := Hid.mk hfir
        have HAL := Hid.mk hall
        have HTK := Hid.mk htk
        clear cc hfir hall htk hby hby2 hbx hB2
        unfold frameC at ha HO2 HB2 HK2 HY2
        unfold frameV at ha
        have hE : frE f = 0 := hEz
        clear hEz
        · have hE2 := frE_ok hE
          have hnm := fun W hW => nameOf_any f fa fl fc W hW hE2.1 hE2.2.1
          unfold frameV at hnm
          rw [hE] at ha
          have HA := Hid.mk ha
          have HNM := Hid.mk hnm
          have HE := Hid.mk hE
          generalize ByteArray.mk (nameL f).toArray = X at *
          clear ha hE hE2 hnm
          go_wp2_with fail
          refine HA.out.mono ?_
          rintro e w3 ⟨rfl, hb3⟩
          have HO3 := Hid.mk (ownsRow_below HO2.out hb3)
          have HB3 := Hid.mk (bl2 HB2.out hb3)
          obtain ⟨k0, k1, k2, k3, k4, k5⟩ := HK2.out.kept hb3
          clear hb3 HO2 HB2 HO HB HA HK2 HY2
          go_wp2_with fail
          refine (HNM.out _ (cell_kept HB3.out HD.out)).mono ?_
          rintro e w4 ⟨rfl, hb4⟩
          have HO4 := Hid.mk (ownsRow_below HO3.out hb4)
          have HB4 := Hid.mk (bl2 HB3.out hb4)
          clear hb4 HO3 HB3 HNM k0 k1 k2 k3 k4 k5
          go_wp2_with (at_builtin; refine wpList_append_own _ rfl (.tmp 51) (.tmp 54) 27 rfl w.heap.size 9 i0 (.string ⟨#[]⟩) 1 16 Tryd.underlying27 hi hz0 hz1 hz2 rfl (by decide) _ _ _ rfl (HO4.out.alloc _) ⟨w4.heap.size, 0, none⟩ 1 1 [Value.string X] rfl rfl (by intro q u hq; match q, hq with | 0, hq => (simp at hq; subst hq; simp [Addr.add])) (by intro u hu; simp at hu; subst hu; rfl) (by unfold maxLen; omega) (by omega) (by have := HB4.out.size; simp; omega) ?_; intro v3 w5 hown3 hgrow3 _)
          have hB5 : Below w.heap.size w w5 := Below.grown (HB4.out.alloc HB4.out.size _) hgrow3 (by have := HB4.out.size; simp; omega) (fun q hq => (HO4.out.lt q hq).1)
          rw [← HTK.out] at hown3
          clear hgrow3
          go_roundw
          case rel => exact ⟨k + 1, by omega, by go_num, Hid.mk hown3, Hid.mk (HAL.out HE.out), Hid.mk hB5⟩
          case measure => simp [intOf]; omega
    · have e : k = n := by omega
      subst e
      have hown := HO.out
      rw [List.take_of_length_le (by have := HF.out.len; omega)] at hown
      have hown2 : wr.ownsRow w.heap.size 9 1 u5 k (strC (namesL l)) := hown
      obtain ⟨gr, cr, rfl, hnc⟩ := owns_room hown2 h0
      have hX := strs_of hown2
      have HX := Hid.mk hX
      have h0' : ((k : Int) == 0) = false := by rw [beq_eq_false_iff_ne]; omega
      clear hown hown2 hX HO HZ hnc
      go_wp2_with fail
      refine (HM.out _ _ _ HX.out).mono ?_
      rintro e w3 ⟨rfl, hw3⟩
      subst hw3
      go_wp2_with fail
      go_loopw [10, 70] (fun c i wr => ∃ j : Nat, j ≤ k ∧ i = .int .i64 j ∧ c = .int .i64 (((namesL l).take j).count (minL (namesL l))) ∧ wr = w3) (fun _ i _ => k - (intOf i).toNat)
      case atStart => exact ⟨0, Nat.zero_le _, rfl, rfl, rfl⟩
      case round =>
        obtain ⟨j, hj, rfl, rfl, hwr⟩ := hrel
        subst hwr
        by_cases hjk : j < k
        · have hjk' : (j : Int) < (k : Int) := by omega
          have hjl : j < (namesL l).length := by rw [HRL.out]; exact hjk
          have hc := HX.out j hjl
          rw [Nat.zero_add] at hc
          have hcl : ((namesL l).take j).count (minL (namesL l)) ≤ k := Nat.le_trans (List.count_le_length) (by rw [List.length_take]; omega)
          have htk := List.take_succ_eq_append_getElem hjl
          have hgd : (namesL l).getD j [] = (namesL l)[j] := by simp [List.getD, hjl]
          by_cases he : (namesL l).getD j [] = minL (namesL l)
          · have hb : ((ByteArray.mk ((namesL l).getD j []).toArray).toList == BT.toList) = true := by rw [HBT.out, txt_eq, he]; simp
            have HCN := Hid.mk (show ((((namesL l).take (j + 1)).count (minL (namesL l)) : Nat) : Int) = ((((namesL l).take j).count (minL (namesL l)) : Nat) : Int) + 1 by
              rw [htk, ← hgd, he, List.count_append, List.count_singleton_self]; simp)
            generalize ByteArray.mk ((namesL l).getD j []).toArray = Y at *
            generalize ((namesL l).take j).count (minL (namesL l)) = cn at *
            clear he htk hgd hjl
            go_wp2_with fail
            go_roundw
            case rel => exact ⟨j + 1, by omega, by go_num, by rw [HCN.out], by first | rfl | trivial⟩
            case measure => simp [intOf]; omega
          · have hb : ((ByteArray.mk ((namesL l).getD j []).toArray).toList == BT.toList) = false := by rw [HBT.out, txt_eq]; simpa using he
            have HCN := Hid.mk (show ((namesL l).take (j + 1)).count (minL (namesL l)) = ((namesL l).take j).count (minL (namesL l)) by
              rw [htk, ← hgd, List.count_append, List.count_singleton, if_neg (by simpa using he), Nat.add_zero])
            generalize ByteArray.mk ((namesL l).getD j []).toArray = Y at *
            clear he htk hgd hjl
            go_wp2_with fail
            go_roundw
            case rel => exact ⟨j + 1, by omega, by go_num, by rw [HCN.out], by first | rfl | trivial⟩
            case measure => simp [intOf]; omega
        · have e : j = k := by omega
          subst e
          have htl : (namesL l).take j = namesL l := List.take_of_length_le (by rw [HRL.out]; omega)
          rw [htl]
          have hoe := HOE.out
          have hon := HON.out
          by_cases h1 : 1 < (namesL l).count (minL (namesL l))
          · rw [if_pos h1] at hoe
            rw [hoe, if_neg (by decide)] at hon
            subst hoe
            subst hon
            have h1' : (1 : Int) < (((namesL l).count (minL (namesL l)) : Nat) : Int) := by omega
            generalize (namesL l).count (minL (namesL l)) = cn at *
            clear htl
            go_wp2_with fail
            go_ret
            exact ⟨rfl, HB.out⟩
          · rw [if_neg h1] at hoe
            rw [hoe, if_pos rfl] at hon
            subst hoe
            subst hon
            have h1' : (((namesL l).count (minL (namesL l)) : Nat) : Int) ≤ 1 := by omega
            generalize (namesL l).count (minL (namesL l)) = cn at *
            clear htl
            go_wp2_with fail
            refine (HI.out _ _ _ HX.out).mono ?_
            rintro e w4 ⟨rfl, hw4⟩
            subst hw4
            go_wp2_with fail
            go_ret
            exact ⟨rfl, HB.out⟩
end Bw
end Go.Proofs.YtdhmjbnpdmneiadDoor

/- The table of the numbers of bytes off the row's own condition. -/
namespace Go.Proofs.YtdhmjbnpdmneiadDoor
open Go.ChangeShapes Go.WideShapes Go.ChangeAt Go.RowKit
namespace Bw
theorem fsz_eq : Rows.laid_omnibus_frame_sizes (H := Unit) = Lib.tabData .i64 sizesI := by kernel_rfl
theorem fsz_t : Tryd.prog.underlying 110 = some (.array 16 3) := by kernel_rfl
theorem fsz_c : Tryd.prog.cellsOf 110 = 16 := by kernel_rfl
theorem fsz_c1 : Tryd.prog.cellsOf 3 = 1 := by kernel_rfl
theorem fsz_g : Tryd.prog.globalNamed "omnibus/frame.sizes" = some 2 := by kernel_rfl
theorem fsz_y : (Tryd.prog.globals[2]?).map (·.type) = some 110 := by kernel_rfl
theorem sizes_of {W : World} {laid : List (String × DataW Unit)} (hL : laidMet Tryd.prog laid W)
    (h1 : ("omnibus/frame.sizes", Rows.laid_omnibus_frame_sizes) ∈ laid) : SizesAt W := by
  obtain ⟨g, t, cs, fuel, p, hg, hty, hvar, hd⟩ := Lib.laidMet.reads hL h1
  obtain rfl := Option.some.inj (fsz_g.symm.trans hg)
  obtain rfl := Option.some.inj (fsz_y.symm.trans hty)
  rw [fsz_eq] at hd
  have hcs := Lib.cells_of_tab fsz_t Tryd.underlying3 fsz_c1 fsz_c hd
  intro i hi
  have := World.var?_cell hg hvar i
  rw [this, ← Array.getElem?_toList, hcs]
  rw [List.getElem?_map, List.getElem?_eq_getElem hi]
  simp [List.getD, hi]
end Bw
end Go.Proofs.YtdhmjbnpdmneiadDoor

/- The table of kinds off the row's own condition: its cells hold the sizes, polynomials, starts and ends. -/
namespace Go.Proofs.YtdhmjbnpdmneiadDoor
open Go.ChangeShapes Go.WideShapes Go.ChangeAt Go.RowKit
namespace Bw
open Cm
def ruleZ (k : Nat) : List Int := [(kS k : Int), (kP k : Int), (kF k : Int), (kE k : Int)]
def rulesD : List (DataW Unit) := [0, 1, 2, 3, 4].map fun k => .agg ((ruleZ k).map fun z => .lit (.int .i64 z))
theorem five_at (k : Nat) (hk : k ≤ 4) : [0, 1, 2, 3, 4][k]? = some k := by
  match k, hk with
  | 0, _ => rfl
  | 1, _ => rfl
  | 2, _ => rfl
  | 3, _ => rfl
  | 4, _ => rfl
theorem rulesD_at (k : Nat) (hk : k ≤ 4) : rulesD[k]? = some (.agg ((ruleZ k).map fun z => .lit (.int .i64 z))) := by
  rw [rulesD, List.getElem?_map, five_at k hk]; rfl
theorem rules_eq : Rows.laid_omnibus_check_rules (H := Unit) = .agg rulesD := by kernel_rfl
theorem rules_t : Tryd.prog.underlying 98 = some (.array 5 97) := by kernel_rfl
theorem rule_c : Tryd.prog.cellsOf 97 = 4 := by kernel_rfl
theorem int_c : Tryd.prog.cellsOf 3 = 1 := by kernel_rfl
theorem rules_g : Tryd.prog.globalNamed "omnibus/check.rules" = some 1 := by kernel_rfl
theorem rules_y : (Tryd.prog.globals[1]?).map (·.type) = some 98 := by kernel_rfl
theorem rules_of {W : World} {laid : List (String × DataW Unit)} (hL : laidMet Tryd.prog laid W)
    (h1 : ("omnibus/check.rules", Rows.laid_omnibus_check_rules) ∈ laid) : RulesAt W := by
  obtain ⟨g, t, cs, fuel, p, hg, hty, hvar, hd⟩ := Lib.laidMet.reads hL h1
  obtain rfl := Option.some.inj (rules_g.symm.trans hg)
  obtain rfl := Option.some.inj (rules_y.symm.trans hty)
  rw [rules_eq] at hd
  intro k hk
  obtain ⟨fuel', d, q, hdk, htr⟩ := Lib.array_elem rules_t hd k (by omega)
  have hdd : d = .agg ((ruleZ k).map fun z => .lit (.int .i64 z)) := by
    have := rulesD_at k hk
    rw [hdk] at this
    exact Option.some.inj this
  subst hdd
  have hz := Lib.ints_of_struct Tryd.underlying97 (by
    intro i f h
    match i, h with
    | 0, h => cases h; exact ⟨Tryd.underlying3, rfl, int_c⟩
    | 1, h => cases h; exact ⟨Tryd.underlying3, rfl, int_c⟩
    | 2, h => cases h; exact ⟨Tryd.underlying3, rfl, int_c⟩
    | 3, h => cases h; exact ⟨Tryd.underlying3, rfl, int_c⟩
    | i + 4, h => simp at h) rule_c htr
  rw [rule_c] at hz
  have hc : ∀ j, j < 4 → cs[k * 4 + j]? = ((ruleZ k).map fun z => Value.int .i64 z)[j]? := by
    intro j hj
    rw [← hz, List.getElem?_take_of_lt hj, List.getElem?_drop, Array.getElem?_toList]
  have hv := fun j => World.var?_cell hg hvar j
  refine ⟨?_, ?_, ?_, ?_⟩
  · rw [hv, ← Nat.add_zero (k * 4), hc 0 (by omega)]; rfl
  · rw [hv, hc 1 (by omega)]; rfl
  · rw [hv, hc 2 (by omega)]; rfl
  · rw [hv, hc 3 (by omega)]; rfl
end Bw
end Go.Proofs.YtdhmjbnpdmneiadDoor

/- The one cell of the table of math/bits that is read, off the row's own condition. -/
namespace Go.Proofs.YtdhmjbnpdmneiadDoor
open Go.ChangeShapes Go.WideShapes Go.ChangeAt Go.RowKit
namespace Bw
def bruijnZ : List Int := [0, 1, 56, 2, 57, 49, 28, 3, 61, 58, 42, 50, 38, 29, 17, 4, 62, 47, 59, 36, 45, 43, 51, 22, 53, 39, 33, 30, 24, 18, 12, 5, 63, 55, 48, 27, 60, 41, 37, 16, 46, 35, 44, 21, 52, 32, 23, 11, 54, 26, 40, 15, 34, 20, 31, 10, 25, 14, 19, 9, 13, 8, 7, 6]
theorem bruijn_eq : Rows.laid_math_bits_deBruijn64tab (H := Unit) = Lib.tabData .u8 bruijnZ := by kernel_rfl
theorem bruijn_t : Tryd.prog.underlying 159 = some (.array 64 5) := by kernel_rfl
theorem bruijn_c : Tryd.prog.cellsOf 159 = 64 := by kernel_rfl
theorem bruijn_c1 : Tryd.prog.cellsOf 5 = 1 := by kernel_rfl
theorem bruijn_g : Tryd.prog.globalNamed "math/bits.deBruijn64tab" = some 6 := by kernel_rfl
theorem bruijn_y : (Tryd.prog.globals[6]?).map (·.type) = some 159 := by kernel_rfl
theorem bruijn_of {W : World} {laid : List (String × DataW Unit)} (hL : laidMet Tryd.prog laid W)
    (h1 : ("math/bits.deBruijn64tab", Rows.laid_math_bits_deBruijn64tab) ∈ laid) : W.cell? ⟨6, 1, none⟩ = some (.int .u8 1) := by
  obtain ⟨g, t, cs, fuel, p, hg, hty, hvar, hd⟩ := Lib.laidMet.reads hL h1
  obtain rfl := Option.some.inj (bruijn_g.symm.trans hg)
  obtain rfl := Option.some.inj (bruijn_y.symm.trans hty)
  rw [bruijn_eq] at hd
  have hcs := Lib.cells_of_tab bruijn_t Tryd.underlying5 bruijn_c1 bruijn_c hd
  have := World.var?_cell hg hvar 1
  rw [this, ← Array.getElem?_toList, hcs]
  rfl
end Bw
end Go.Proofs.YtdhmjbnpdmneiadDoor

/- The law WireFirst: of any frames the one whose name comes first is told, errors too. -/
namespace Go.Proofs.YtdhmjbnpdmneiadDoor
open Go.ChangeShapes Go.WideShapes Go.ChangeAt Go.RowKit
namespace wireFirst
open Bw Bm
theorem walk (a : Option Addr) (n cap : Nat) (l : List FrV) (w : World) (hF : IsFrames w a n cap l) (hL : laidMet Tryd.prog Rows.wireFirstRow.laid w) :
    Calls Tryd.prog 3 #[.slice a n cap] w fun e w' => e = .returned (.bool true) ∧ Below w.heap.size w w' := by
  have hS := sizes_of hL (by simp [Rows.wireFirstRow])
  have hR := rules_of hL (by simp [Rows.wireFirstRow])
  have hD := bruijn_of hL (by simp [Rows.wireFirstRow])
  have hCF : CheckF := fun id lo fa re sz a len cap w h => checkFrame_any id lo fa re sz a len cap w h
  by_cases h6 : 6 < n
  · exact wfirst_many a n cap w hS hR h6
  · by_cases hz : firE (l.map (·.f)) = 0
    · by_cases h0 : n = 0
      · subst h0
        exact wfirst_none a cap l w hS hR hF
      · exact wfirst_ok hCF a n cap l w hS hR hD hF (by omega) hz (by omega)
    · exact wfirst_bad hCF a n cap l w hS hR hD hF (by omega) hz
end wireFirst
end Go.Proofs.YtdhmjbnpdmneiadDoor
