/- Joined out of our texts: WfirstLaw, SizesRow, RulesRow, BruijnRow, WfirstWalk. -/
import Derived.Test.YthdhhmflfdbkhaaDoorLawWireFirstPAB
import Derived.Test.YthdhhmflfdbkhaaDoorLawWireFirstRAE
import Derived.Test.YthdhhmflfdbkhaaDoorLawWireFirstPAE
import Derived.Test.YthdhhmflfdbkhaaDoorLawWireFirstPAL
import Derived.Test.YthdhhmflfdbkhaaDoorRows
import Derived.Test.YthdhhmflfdbkhaaDoorLawWireFirstPAA
import Derived.Lib.LaidU8
import Derived.Test.YthdhhmflfdbkhaaDoorIsRow
import Derived.Test.YthdhhmflfdbkhaaDoorRefFrame
/- The law WireFirst: of any frames the one whose name comes first is told, errors too. -/
namespace Go.Proofs.YthdhhmflfdbkhaaDoor
open Go.ChangeShapes Go.WideShapes Go.ChangeAt Go.RowKit
namespace Bw
open Bm Cm
set_option maxHeartbeats 4000000 in
theorem wfirst_many (a : Option Addr) (n cap : Nat) (w : World) (hS : SizesAt w) (hR : RulesAt w) (h : 6 < n) :
    Calls Tryd.prog 3 #[.slice a n cap] w fun e w' => e = .returned (.bool true) ∧ Below w.heap.size w w' := by
  have HA1 := Hid.mk (first_many a n cap w h)
  have HA2 := Hid.mk (fun W h1 h2 => wired_any W h1 h2)
  have HS := Hid.mk hS
  have HR := Hid.mk hR
  have h2 : (6 : Int) < (n : Int) := by omega
  clear hS hR
  go_enter Tryd.func3, Tryd.ntmps3
  go_wp2_with fail
  refine HA1.out.mono ?_
  rintro e w1 ⟨rfl, hw⟩
  subst hw
  go_wp2_with fail
  refine (HA2.out _ HS.out HR.out).mono ?_
  rintro e w2 ⟨rfl, hb2⟩
  have HB2 := Hid.mk hb2
  clear hb2
  go_wp2_with fail
  refine (HA2.out _ (HS.out.kept HB2.out) (HR.out.kept HB2.out)).mono ?_
  rintro e w3 ⟨rfl, hb3⟩
  have HB3 := Hid.mk (bl2 HB2.out hb3)
  clear hb3
  go_wp2_with fail
  go_ret
  exact ⟨rfl, HB3.out⟩
set_option maxHeartbeats 8000000 in
theorem wfirst_none (a : Option Addr) (cap : Nat) (l : List FrV) (w : World) (hS : SizesAt w) (hR : RulesAt w) (hF : IsFrames w a 0 cap l) :
    Calls Tryd.prog 3 #[.slice a 0 cap] w fun e w' => e = .returned (.bool true) ∧ Below w.heap.size w w' := by
  have HA1 := Hid.mk (first_none a 0 cap l w hS hF rfl)
  have HA2 := Hid.mk (fun W h1 h2 => wired_any W h1 h2)
  have HS := Hid.mk hS
  have HR := Hid.mk hR
  clear hF hS hR
  go_enter Tryd.func3, Tryd.ntmps3
  go_wp2_with fail
  refine HA1.out.mono ?_
  rintro e w1 ⟨rfl, hb1⟩
  have HB1 := Hid.mk hb1
  clear hb1
  go_wp2_with fail
  refine (HA2.out _ (HS.out.kept HB1.out) (HR.out.kept HB1.out)).mono ?_
  rintro e w2 ⟨rfl, hb2⟩
  have HB2 := Hid.mk (bl2 HB1.out hb2)
  clear hb2 HB1 HA1 HA2
  go_wp2_with fail
  go_loopw [36] (fun i wr => i = .int .i64 0 ∧ wr = w2) (fun _ _ => 0)
  case atStart => exact ⟨rfl, rfl⟩
  case round =>
    obtain ⟨rfl, hwr⟩ := hrel
    subst hwr
    go_wp2_with fail
    go_ret
    exact ⟨rfl, HB2.out⟩
set_option maxHeartbeats 8000000 in
set_option maxRecDepth 100000 in
theorem wfirst_bad (hCF : CheckF) (a : Option Addr) (n cap : Nat) (l : List FrV) (w : World) (hS : SizesAt w) (hR : RulesAt w) (hD : w.cell? ⟨5, 1, none⟩ = some (.int .u8 1)) (hF : IsFrames w a n cap l) (h6 : n ≤ 6) (hz : firE (l.map (·.f)) ≠ 0) :
    Calls Tryd.prog 3 #[.slice a n cap] w fun e w' => e = .returned (.bool true) ∧ Below w.heap.size w w' := by
  obtain ⟨i0, hi, hz0, hz1, hz2⟩ := info_parts info_str
  have HA1 := Hid.mk (first_bad a n cap l w hS hF h6 hz)
  generalize hce : firE (l.map (·.f)) = ce at *
  have HCE := Hid.mk hce
  have HNZ := Hid.mk hz
  clear hce
  have HA2 := Hid.mk (fun W h1 h2 => wired_any W h1 h2)
  have HCF := Hid.mk hCF
  have HF := Hid.mk hF
  have HS := Hid.mk hS
  have HR := Hid.mk hR
  have HD := Hid.mk hD
  have h6' : (n : Int) ≤ 6 := by omega
  clear hF hS hR hD hz hCF
  go_enter Tryd.func3, Tryd.ntmps3
  go_wp2_with fail
  refine HA1.out.mono ?_
  rintro e w1 ⟨rfl, hb1⟩
  have HB1 := Hid.mk hb1
  clear hb1
  go_wp2_with fail
  refine (HA2.out _ (HS.out.kept HB1.out) (HR.out.kept HB1.out)).mono ?_
  rintro e w2 ⟨rfl, hb2⟩
  have HB2 := Hid.mk (bl2 HB1.out hb2)
  clear hb2 HB1 HA1 HA2
  go_wp2_with fail
  go_loopw [5, 36] (fun r i wr => ∃ k : Nat, k ≤ n ∧ i = .int .i64 k ∧ Hid (wr.ownsRow w.heap.size 9 1 r k (strC ((l.take k).map fun v => nameL v.f))) ∧ Hid (∀ v ∈ l.take k, frE v.f = 0) ∧ Hid (Below w.heap.size w wr)) (fun _ i _ => n - (intOf i).toNat)
  case atStart => exact ⟨0, Nat.zero_le _, rfl, Hid.mk (by simpa [strC] using World.ownsRow_nil _ _ _ _), Hid.mk (by simp), HB2⟩
  case round =>
    clear HB2
    obtain ⟨k, hk, rfl, HO, HZ, HB⟩ := hrel
    by_cases hlt : k < n
    · have hlt' : (k : Int) < (n : Int) := by omega
      have hkl : k < l.length := by rw [HF.out.len]; exact hlt
      cases a with
      | none => exact absurd (HF.out.none rfl) (by omega)
      | some x =>
        have cc := fun (j : Nat) (hj : j < 6) => cell_kept HB.out (HF.out.cell x rfl k hkl j hj)
        have hby := isBytes_below (HF.out.bytes k hkl) (show Below w.heap.size w wr from HB.out)
        have hfir := firE_take l k hkl HZ.out
        have hall := take_all hkl HZ.out
        have htk : strC ((l.take (k + 1)).map fun v => nameL v.f) = strC ((l.take k).map fun v => nameL v.f) ++ [.string ⟨(nameL l[k].f).toArray⟩] := by
          rw [List.take_succ_eq_append_getElem hkl, List.map_append, strC_append]; rfl
        generalize l[k] = v at *
        obtain ⟨f, fa, fl, fc⟩ := v
        have c0 := cc 0 (by omega)
        have c1 := cc 1 (by omega)
        have c2 := cc 2 (by omega)
        have c3 := cc 3 (by omega)
        have c4 := cc 4 (by omega)
        have c5 := cc 5 (by omega)
        rw [add_next] at c1 c2 c3 c4 c5
        rw [Nat.add_zero] at c0
        simp only [FrV.cells, List.getElem_cons_zero, List.getElem_cons_succ, Nat.reduceAdd] at c0 c1 c2 c3 c4 c5
        simp only at hby hfir hall htk
        have hbx := below_box wr f.id f.lo f.fa f.re f.sz fa fl fc
        have hby2 := isBytes_below hby hbx
        have hB2 := bl2 HB.out hbx
        have ha := HCF.out.fr f fa fl fc _ hby2
        have HK2 := Hid.mk (FrAt.box wr f.id f.lo f.fa f.re f.sz fa fl fc)
        have HY2 := Hid.mk hby2
        have HO2 := Hid.mk (HO.out.alloc (frameC f.id f.lo f.fa f.re f.sz fa fl fc))
        have HB2 := Hid.mk hB2
        have HFI := Hid.mk hfir
        have HAL := Hid.mk hall
        have HTK := Hid.mk htk
        clear cc hfir hall htk hby hby2 hbx hB2
        unfold frameC at ha HO2 HB2 HK2 HY2
        unfold frameV at ha
        by_cases hE : frE f = 0
        · have hE2 := frE_ok hE
          have hnm := fun W hW => nameOf_any f fa fl fc W hW hE2.1 hE2.2.1
          unfold frameV at hnm
          rw [hE] at ha
          have HA := Hid.mk ha
          have HNM := Hid.mk hnm
          have HE := Hid.mk hE
          generalize ByteArray.mk (nameL f).toArray = X at *
          clear ha hE hE2 hnm
          go_wp2_with fail
          refine HA.out.mono ?_
          rintro e w3 ⟨rfl, hb3⟩
          have HO3 := Hid.mk (ownsRow_below HO2.out hb3)
          have HB3 := Hid.mk (bl2 HB2.out hb3)
          obtain ⟨k0, k1, k2, k3, k4, k5⟩ := HK2.out.kept hb3
          clear hb3 HO2 HB2 HO HB HA HK2 HY2
          go_wp2_with fail
          refine (HNM.out _ (cell_kept HB3.out HD.out)).mono ?_
          rintro e w4 ⟨rfl, hb4⟩
          have HO4 := Hid.mk (ownsRow_below HO3.out hb4)
          have HB4 := Hid.mk (bl2 HB3.out hb4)
          clear hb4 HO3 HB3 HNM k0 k1 k2 k3 k4 k5
          go_wp2_with (at_builtin; refine wpList_append_own _ rfl (.tmp 51) (.tmp 54) 27 rfl w.heap.size 9 i0 (.string ⟨#[]⟩) 1 16 Tryd.underlying27 hi hz0 hz1 hz2 rfl (by decide) _ _ _ rfl (HO4.out.alloc _) ⟨w4.heap.size, 0, none⟩ 1 1 [Value.string X] rfl rfl (by intro q u hq; match q, hq with | 0, hq => (simp at hq; subst hq; simp [Addr.add])) (by intro u hu; simp at hu; subst hu; rfl) (by unfold maxLen; omega) (by omega) (by have := HB4.out.size; simp; omega) ?_; intro v3 w5 hown3 hgrow3 _)
          have hB5 : Below w.heap.size w w5 := Below.grown (HB4.out.alloc HB4.out.size _) hgrow3 (by have := HB4.out.size; simp; omega) (fun q hq => (HO4.out.lt q hq).1)
          rw [← HTK.out] at hown3
          clear hgrow3
          go_roundw
          case rel => exact ⟨k + 1, by omega, by go_num, Hid.mk hown3, Hid.mk (HAL.out HE.out), Hid.mk hB5⟩
          case measure => simp [intOf]; omega
        · have HE := Hid.mk ((HFI.out hE).symm.trans HCE.out)
          have hne : (frE f != 0) = true := by simpa using hE
          have hq : (ce == frE f) = true := by rw [HE.out]; simp
          have HA := Hid.mk ha
          clear ha hE
          generalize frE f = cf at *
          go_wp2_with fail
          refine HA.out.mono ?_
          rintro e w3 ⟨rfl, hb3⟩
          have HB3 := Hid.mk (bl2 HB2.out hb3)
          clear hb3 HO2 HB2 HO HB HA
          go_wp2_with fail
          go_ret
          exact ⟨rfl, HB3.out⟩
    · exfalso
      have e : k = n := by omega
      subst e
      have hz := HZ.out
      rw [List.take_of_length_le (by have := HF.out.len; omega)] at hz
      exact HNZ.out (HCE.out.symm.trans ((firE_zero _).2 (fun f hf => by
        obtain ⟨v, hv, rfl⟩ := List.mem_map.1 hf
        exact hz v hv)))
set_option maxHeartbeats 8000000 in
set_option maxRecDepth 100000 in
theorem wfirst_ok (hCF : CheckF) (a : Option Addr) (n cap : Nat) (l : List FrV) (w : World) (hS : SizesAt w) (hR : RulesAt w) (hD : w.cell? ⟨5, 1, none⟩ = some (.int .u8 1)) (hF : IsFrames w a n cap l) (h6 : n ≤ 6) (hz : firE (l.map (·.f)) = 0) (h0 : 0 < n) :
    Calls Tryd.prog 3 #[.slice a n cap] w fun e w' => e = .returned (.bool true) ∧ Below w.heap.size w w' := by
  obtain ⟨i0, hi, hz0, hz1, hz2⟩ := info_parts info_str
  have HA1 := Hid.mk (first_ok a n cap l w hS hF h0 h6 hz)
  have hrl : (namesL l).length = n := by rw [namesL, List.length_map, hF.len]
  have hmem : minL (namesL l) ∈ namesL l := (minL_least (namesL l) (fun h => by rw [h] at hrl; simp at hrl; omega)).1
  have HOE := Hid.mk (onlyE_rows hmem)
  have HON := Hid.mk (show onlyN (namesL l) (minL (namesL l)) = if onlyE (namesL l) (minL (namesL l)) = 0 then idxG (namesL l) (minL (namesL l)) else 0 from rfl)
  have HRL := Hid.mk hrl
  have HZA := Hid.mk (show ∀ v ∈ l, frE v.f = 0 from fun v hv => (firE_zero _).1 hz v.f (List.mem_map.2 ⟨v, hv, rfl⟩))
  have HM := Hid.mk (fun g c W hX => minS_any g n c (namesL l) W hrl h0 (by omega) hX)
  have HI := Hid.mk (fun g c W hX => indexS g 0 n c (namesL l) (minL (namesL l)) W hrl (by omega) hX)
  obtain ⟨BT, hBT⟩ : ∃ BT : ByteArray, BT = ⟨(minL (namesL l)).toArray⟩ := ⟨_, rfl⟩
  rw [← hBT] at HM HI
  have HBT := Hid.mk hBT
  clear hrl hmem hBT
  generalize onlyN (namesL l) (minL (namesL l)) = oN at *
  generalize onlyE (namesL l) (minL (namesL l)) = oE at *
  have HA2 := Hid.mk (fun W h1 h2 => wired_any W h1 h2)
  have HCF := Hid.mk hCF
  have HF := Hid.mk hF
  have HS := Hid.mk hS
  have HR := Hid.mk hR
  have HD := Hid.mk hD
  have h6' : (n : Int) ≤ 6 := by omega
  clear hF hS hR hD hz hCF
  go_enter Tryd.func3, Tryd.ntmps3
  go_wp2_with fail
  refine HA1.out.mono ?_
  rintro e w1 ⟨rfl, hb1⟩
  have HB1 := Hid.mk hb1
  clear hb1
  go_wp2_with fail
  refine (HA2.out _ (HS.out.kept HB1.out) (HR.out.kept HB1.out)).mono ?_
  rintro e w2 ⟨rfl, hb2⟩
  have HB2 := Hid.mk (bl2 HB1.out hb2)
  clear hb2 HB1 HA1 HA2
  go_wp2_with fail
  go_loopw [5, 36] (fun r i wr => ∃ k : Nat, k ≤ n ∧ i = .int .i64 k ∧ Hid (wr.ownsRow w.heap.size 9 1 r k (strC ((l.take k).map fun v => nameL v.f))) ∧ Hid (∀ v ∈ l.take k, frE v.f = 0) ∧ Hid (Below w.heap.size w wr)) (fun _ i _ => n - (intOf i).toNat)
  case atStart => exact ⟨0, Nat.zero_le _, rfl, Hid.mk (by simpa [strC] using World.ownsRow_nil _ _ _ _), Hid.mk (by simp), HB2⟩
  case round =>
    clear HB2
    obtain ⟨k, hk, rfl, HO, HZ, HB⟩ := hrel
    by_cases hlt : k < n
    · have hlt' : (k : Int) < (n : Int) := by omega
      have hkl : k < l.length := by rw [HF.out.len]; exact hlt
      cases a with
      | none => exact absurd (HF.out.none rfl) (by omega)
      | some x =>
        have cc := fun (j : Nat) (hj : j < 6) => cell_kept HB.out (HF.out.cell x rfl k hkl j hj)
        have hby := isBytes_below (HF.out.bytes k hkl) (show Below w.heap.size w wr from HB.out)
        have hfir := firE_take l k hkl HZ.out
        have hall := take_all hkl HZ.out
        have htk : strC ((l.take (k + 1)).map fun v => nameL v.f) = strC ((l.take k).map fun v => nameL v.f) ++ [.string ⟨(nameL l[k].f).toArray⟩] := by
          rw [List.take_succ_eq_append_getElem hkl, List.map_append, strC_append]; rfl
        have hEz := HZA.out l[k] (List.getElem_mem hkl)
        generalize l[k] = v at *
        obtain ⟨f, fa, fl, fc⟩ := v
        have c0 := cc 0 (by omega)
        have c1 := cc 1 (by omega)
        have c2 := cc 2 (by omega)
        have c3 := cc 3 (by omega)
        have c4 := cc 4 (by omega)
        have c5 := cc 5 (by omega)
        rw [add_next] at c1 c2 c3 c4 c5
        rw [Nat.add_zero] at c0
        simp only [FrV.cells, List.getElem_cons_zero, List.getElem_cons_succ, Nat.reduceAdd] at c0 c1 c2 c3 c4 c5
        simp only at hby hfir hall htk
        have hbx := below_box wr f.id f.lo f.fa f.re f.sz fa fl fc
        have hby2 := isBytes_below hby hbx
        have hB2 := bl2 HB.out hbx
        have ha := HCF.out.fr f fa fl fc _ hby2
        have HK2 := Hid.mk (FrAt.box wr f.id f.lo f.fa f.re f.sz fa fl fc)
        have HY2 := Hid.mk hby2
        have HO2 := Hid.mk (HO.out.alloc (frameC f.id f.lo f.fa f.re f.sz fa fl fc))
        have HB2 := Hid.mk hB2
        have HFI := Hid.mk hfir
        have HAL := Hid.mk hall
        have HTK := Hid.mk htk
        clear cc hfir hall htk hby hby2 hbx hB2
        unfold frameC at ha HO2 HB2 HK2 HY2
        unfold frameV at ha
        have hE : frE f = 0 := hEz
        clear hEz
        · have hE2 := frE_ok hE
          have hnm := fun W hW => nameOf_any f fa fl fc W hW hE2.1 hE2.2.1
          unfold frameV at hnm
          rw [hE] at ha
          have HA := Hid.mk ha
          have HNM := Hid.mk hnm
          have HE := Hid.mk hE
          generalize ByteArray.mk (nameL f).toArray = X at *
          clear ha hE hE2 hnm
          go_wp2_with fail
          refine HA.out.mono ?_
          rintro e w3 ⟨rfl, hb3⟩
          have HO3 := Hid.mk (ownsRow_below HO2.out hb3)
          have HB3 := Hid.mk (bl2 HB2.out hb3)
          obtain ⟨k0, k1, k2, k3, k4, k5⟩ := HK2.out.kept hb3
          clear hb3 HO2 HB2 HO HB HA HK2 HY2
          go_wp2_with fail
          refine (HNM.out _ (cell_kept HB3.out HD.out)).mono ?_
          rintro e w4 ⟨rfl, hb4⟩
          have HO4 := Hid.mk (ownsRow_below HO3.out hb4)
          have HB4 := Hid.mk (bl2 HB3.out hb4)
          clear hb4 HO3 HB3 HNM k0 k1 k2 k3 k4 k5
          go_wp2_with (at_builtin; refine wpList_append_own _ rfl (.tmp 51) (.tmp 54) 27 rfl w.heap.size 9 i0 (.string ⟨#[]⟩) 1 16 Tryd.underlying27 hi hz0 hz1 hz2 rfl (by decide) _ _ _ rfl (HO4.out.alloc _) ⟨w4.heap.size, 0, none⟩ 1 1 [Value.string X] rfl rfl (by intro q u hq; match q, hq with | 0, hq => (simp at hq; subst hq; simp [Addr.add])) (by intro u hu; simp at hu; subst hu; rfl) (by unfold maxLen; omega) (by omega) (by have := HB4.out.size; simp; omega) ?_; intro v3 w5 hown3 hgrow3 _)
          have hB5 : Below w.heap.size w w5 := Below.grown (HB4.out.alloc HB4.out.size _) hgrow3 (by have := HB4.out.size; simp; omega) (fun q hq => (HO4.out.lt q hq).1)
          rw [← HTK.out] at hown3
          clear hgrow3
          go_roundw
          case rel => exact ⟨k + 1, by omega, by go_num, Hid.mk hown3, Hid.mk (HAL.out HE.out), Hid.mk hB5⟩
          case measure => simp [intOf]; omega
    · have e : k = n := by omega
      subst e
      have hown := HO.out
      rw [List.take_of_length_le (by have := HF.out.len; omega)] at hown
      have hown2 : wr.ownsRow w.heap.size 9 1 u5 k (strC (namesL l)) := hown
      obtain ⟨gr, cr, rfl, hnc⟩ := owns_room hown2 h0
      have hX := strs_of hown2
      have HX := Hid.mk hX
      have h0' : ((k : Int) == 0) = false := by rw [beq_eq_false_iff_ne]; omega
      clear hown hown2 hX HO HZ hnc
      go_wp2_with fail
      refine (HM.out _ _ _ HX.out).mono ?_
      rintro e w3 ⟨rfl, hw3⟩
      subst hw3
      go_wp2_with fail
      go_loopw [10, 70] (fun c i wr => ∃ j : Nat, j ≤ k ∧ i = .int .i64 j ∧ c = .int .i64 (((namesL l).take j).count (minL (namesL l))) ∧ wr = w3) (fun _ i _ => k - (intOf i).toNat)
      case atStart => exact ⟨0, Nat.zero_le _, rfl, rfl, rfl⟩
      case round =>
        obtain ⟨j, hj, rfl, rfl, hwr⟩ := hrel
        subst hwr
        by_cases hjk : j < k
        · have hjk' : (j : Int) < (k : Int) := by omega
          have hjl : j < (namesL l).length := by rw [HRL.out]; exact hjk
          have hc := HX.out j hjl
          rw [Nat.zero_add] at hc
          have hcl : ((namesL l).take j).count (minL (namesL l)) ≤ k := Nat.le_trans (List.count_le_length) (by rw [List.length_take]; omega)
          have htk := List.take_succ_eq_append_getElem hjl
          have hgd : (namesL l).getD j [] = (namesL l)[j] := by simp [List.getD, hjl]
          by_cases he : (namesL l).getD j [] = minL (namesL l)
          · have hb : ((ByteArray.mk ((namesL l).getD j []).toArray).toList == BT.toList) = true := by rw [HBT.out, txt_eq, he]; simp
            have HCN := Hid.mk (show ((((namesL l).take (j + 1)).count (minL (namesL l)) : Nat) : Int) = ((((namesL l).take j).count (minL (namesL l)) : Nat) : Int) + 1 by
              rw [htk, ← hgd, he, List.count_append, List.count_singleton_self]; simp)
            generalize ByteArray.mk ((namesL l).getD j []).toArray = Y at *
            generalize ((namesL l).take j).count (minL (namesL l)) = cn at *
            clear he htk hgd hjl
            go_wp2_with fail
            go_roundw
            case rel => exact ⟨j + 1, by omega, by go_num, by rw [HCN.out], by first | rfl | trivial⟩
            case measure => simp [intOf]; omega
          · have hb : ((ByteArray.mk ((namesL l).getD j []).toArray).toList == BT.toList) = false := by rw [HBT.out, txt_eq]; simpa using he
            have HCN := Hid.mk (show ((namesL l).take (j + 1)).count (minL (namesL l)) = ((namesL l).take j).count (minL (namesL l)) by
              rw [htk, ← hgd, List.count_append, List.count_singleton, if_neg (by simpa using he), Nat.add_zero])
            generalize ByteArray.mk ((namesL l).getD j []).toArray = Y at *
            clear he htk hgd hjl
            go_wp2_with fail
            go_roundw
            case rel => exact ⟨j + 1, by omega, by go_num, by rw [HCN.out], by first | rfl | trivial⟩
            case measure => simp [intOf]; omega
        · have e : j = k := by omega
          subst e
          have htl : (namesL l).take j = namesL l := List.take_of_length_le (by rw [HRL.out]; omega)
          rw [htl]
          have hoe := HOE.out
          have hon := HON.out
          by_cases h1 : 1 < (namesL l).count (minL (namesL l))
          · rw [if_pos h1] at hoe
            rw [hoe, if_neg (by decide)] at hon
            subst hoe
            subst hon
            have h1' : (1 : Int) < (((namesL l).count (minL (namesL l)) : Nat) : Int) := by omega
            generalize (namesL l).count (minL (namesL l)) = cn at *
            clear htl
            go_wp2_with fail
            go_ret
            exact ⟨rfl, HB.out⟩
          · rw [if_neg h1] at hoe
            rw [hoe, if_pos rfl] at hon
            subst hoe
            subst hon
            have h1' : (((namesL l).count (minL (namesL l)) : Nat) : Int) ≤ 1 := by omega
            generalize (namesL l).count (minL (namesL l)) = cn at *
            clear htl
            go_wp2_with fail
            refine (HI.out _ _ _ HX.out).mono ?_
            rintro e w4 ⟨rfl, hw4⟩
            subst hw4
            go_wp2_with fail
            go_ret
            exact ⟨rfl, HB.out⟩
end Bw
end Go.Proofs.YthdhhmflfdbkhaaDoor

/- The table of the numbers of bytes off the row's own condition. -/
namespace Go.Proofs.YthdhhmflfdbkhaaDoor
open Go.ChangeShapes Go.WideShapes Go.ChangeAt Go.RowKit
namespace Bw
theorem fsz_eq : Rows.laid_omnibus_frame_sizes (H := Unit) = Lib.tabData .i64 sizesI := by kernel_rfl
theorem fsz_t : Tryd.prog.underlying 95 = some (.array 16 3) := by kernel_rfl
theorem fsz_c : Tryd.prog.cellsOf 95 = 16 := by kernel_rfl
theorem fsz_c1 : Tryd.prog.cellsOf 3 = 1 := by kernel_rfl
theorem fsz_g : Tryd.prog.globalNamed "omnibus/frame.sizes" = some 1 := by kernel_rfl
theorem fsz_y : (Tryd.prog.globals[1]?).map (·.type) = some 95 := by kernel_rfl
theorem sizes_of {W : World} {laid : List (String × DataW Unit)} (hL : laidMet Tryd.prog laid W)
    (h1 : ("omnibus/frame.sizes", Rows.laid_omnibus_frame_sizes) ∈ laid) : SizesAt W := by
  obtain ⟨g, t, cs, fuel, p, hg, hty, hvar, hd⟩ := Lib.laidMet.reads hL h1
  obtain rfl := Option.some.inj (fsz_g.symm.trans hg)
  obtain rfl := Option.some.inj (fsz_y.symm.trans hty)
  rw [fsz_eq] at hd
  have hcs := Lib.cells_of_tab fsz_t Tryd.underlying3 fsz_c1 fsz_c hd
  intro i hi
  have := World.var?_cell hg hvar i
  rw [this, ← Array.getElem?_toList, hcs]
  rw [List.getElem?_map, List.getElem?_eq_getElem hi]
  simp [List.getD, hi]
end Bw
end Go.Proofs.YthdhhmflfdbkhaaDoor

/- The table of kinds off the row's own condition: its cells hold the sizes, polynomials, starts and ends. -/
namespace Go.Proofs.YthdhhmflfdbkhaaDoor
open Go.ChangeShapes Go.WideShapes Go.ChangeAt Go.RowKit
namespace Bw
open Cm
def ruleZ (k : Nat) : List Int := [(kS k : Int), (kP k : Int), (kF k : Int), (kE k : Int)]
def rulesD : List (DataW Unit) := [0, 1, 2, 3, 4].map fun k => .agg ((ruleZ k).map fun z => .lit (.int .i64 z))
theorem five_at (k : Nat) (hk : k ≤ 4) : [0, 1, 2, 3, 4][k]? = some k := by
  match k, hk with
  | 0, _ => rfl
  | 1, _ => rfl
  | 2, _ => rfl
  | 3, _ => rfl
  | 4, _ => rfl
theorem rulesD_at (k : Nat) (hk : k ≤ 4) : rulesD[k]? = some (.agg ((ruleZ k).map fun z => .lit (.int .i64 z))) := by
  rw [rulesD, List.getElem?_map, five_at k hk]; rfl
theorem rules_eq : Rows.laid_omnibus_check_rules (H := Unit) = .agg rulesD := by kernel_rfl
theorem rules_t : Tryd.prog.underlying 83 = some (.array 5 82) := by kernel_rfl
theorem rule_c : Tryd.prog.cellsOf 82 = 4 := by kernel_rfl
theorem int_c : Tryd.prog.cellsOf 3 = 1 := by kernel_rfl
theorem rules_g : Tryd.prog.globalNamed "omnibus/check.rules" = some 0 := by kernel_rfl
theorem rules_y : (Tryd.prog.globals[0]?).map (·.type) = some 83 := by kernel_rfl
theorem rules_of {W : World} {laid : List (String × DataW Unit)} (hL : laidMet Tryd.prog laid W)
    (h1 : ("omnibus/check.rules", Rows.laid_omnibus_check_rules) ∈ laid) : RulesAt W := by
  obtain ⟨g, t, cs, fuel, p, hg, hty, hvar, hd⟩ := Lib.laidMet.reads hL h1
  obtain rfl := Option.some.inj (rules_g.symm.trans hg)
  obtain rfl := Option.some.inj (rules_y.symm.trans hty)
  rw [rules_eq] at hd
  intro k hk
  obtain ⟨fuel', d, q, hdk, htr⟩ := Lib.array_elem rules_t hd k (by omega)
  have hdd : d = .agg ((ruleZ k).map fun z => .lit (.int .i64 z)) := by
    have := rulesD_at k hk
    rw [hdk] at this
    exact Option.some.inj this
  subst hdd
  have hz := Lib.ints_of_struct Tryd.underlying82 (by
    intro i f h
    match i, h with
    | 0, h => cases h; exact ⟨Tryd.underlying3, rfl, int_c⟩
    | 1, h => cases h; exact ⟨Tryd.underlying3, rfl, int_c⟩
    | 2, h => cases h; exact ⟨Tryd.underlying3, rfl, int_c⟩
    | 3, h => cases h; exact ⟨Tryd.underlying3, rfl, int_c⟩
    | i + 4, h => simp at h) rule_c htr
  rw [rule_c] at hz
  have hc : ∀ j, j < 4 → cs[k * 4 + j]? = ((ruleZ k).map fun z => Value.int .i64 z)[j]? := by
    intro j hj
    rw [← hz, List.getElem?_take_of_lt hj, List.getElem?_drop, Array.getElem?_toList]
  have hv := fun j => World.var?_cell hg hvar j
  refine ⟨?_, ?_, ?_, ?_⟩
  · rw [hv, ← Nat.add_zero (k * 4), hc 0 (by omega)]; rfl
  · rw [hv, hc 1 (by omega)]; rfl
  · rw [hv, hc 2 (by omega)]; rfl
  · rw [hv, hc 3 (by omega)]; rfl
end Bw
end Go.Proofs.YthdhhmflfdbkhaaDoor

/- The one cell of the table of math/bits that is read, off the row's own condition. -/
namespace Go.Proofs.YthdhhmflfdbkhaaDoor
open Go.ChangeShapes Go.WideShapes Go.ChangeAt Go.RowKit
namespace Bw
def bruijnZ : List Int := [0, 1, 56, 2, 57, 49, 28, 3, 61, 58, 42, 50, 38, 29, 17, 4, 62, 47, 59, 36, 45, 43, 51, 22, 53, 39, 33, 30, 24, 18, 12, 5, 63, 55, 48, 27, 60, 41, 37, 16, 46, 35, 44, 21, 52, 32, 23, 11, 54, 26, 40, 15, 34, 20, 31, 10, 25, 14, 19, 9, 13, 8, 7, 6]
theorem bruijn_eq : Rows.laid_math_bits_deBruijn64tab (H := Unit) = Lib.tabData .u8 bruijnZ := by kernel_rfl
theorem bruijn_t : Tryd.prog.underlying 144 = some (.array 64 5) := by kernel_rfl
theorem bruijn_c : Tryd.prog.cellsOf 144 = 64 := by kernel_rfl
theorem bruijn_c1 : Tryd.prog.cellsOf 5 = 1 := by kernel_rfl
theorem bruijn_g : Tryd.prog.globalNamed "math/bits.deBruijn64tab" = some 5 := by kernel_rfl
theorem bruijn_y : (Tryd.prog.globals[5]?).map (·.type) = some 144 := by kernel_rfl
theorem bruijn_of {W : World} {laid : List (String × DataW Unit)} (hL : laidMet Tryd.prog laid W)
    (h1 : ("math/bits.deBruijn64tab", Rows.laid_math_bits_deBruijn64tab) ∈ laid) : W.cell? ⟨5, 1, none⟩ = some (.int .u8 1) := by
  obtain ⟨g, t, cs, fuel, p, hg, hty, hvar, hd⟩ := Lib.laidMet.reads hL h1
  obtain rfl := Option.some.inj (bruijn_g.symm.trans hg)
  obtain rfl := Option.some.inj (bruijn_y.symm.trans hty)
  rw [bruijn_eq] at hd
  have hcs := Lib.cells_of_tab bruijn_t Tryd.underlying5 bruijn_c1 bruijn_c hd
  have := World.var?_cell hg hvar 1
  rw [this, ← Array.getElem?_toList, hcs]
  rfl
end Bw
end Go.Proofs.YthdhhmflfdbkhaaDoor

/- The law WireFirst: of any frames the one whose name comes first is told, errors too. -/
namespace Go.Proofs.YthdhhmflfdbkhaaDoor
open Go.ChangeShapes Go.WideShapes Go.ChangeAt Go.RowKit
namespace wireFirst
open Bw Bm
theorem walk (a : Option Addr) (n cap : Nat) (l : List FrV) (w : World) (hF : IsFrames w a n cap l) (hL : laidMet Tryd.prog Rows.wireFirstRow.laid w) :
    Calls Tryd.prog 3 #[.slice a n cap] w fun e w' => e = .returned (.bool true) ∧ Below w.heap.size w w' := by
  have hS := sizes_of hL (by simp [Rows.wireFirstRow])
  have hR := rules_of hL (by simp [Rows.wireFirstRow])
  have hD := bruijn_of hL (by simp [Rows.wireFirstRow])
  have hCF : CheckF := fun id lo fa re sz a len cap w h => checkFrame_any id lo fa re sz a len cap w h
  by_cases h6 : 6 < n
  · exact wfirst_many a n cap w hS hR h6
  · by_cases hz : firE (l.map (·.f)) = 0
    · by_cases h0 : n = 0
      · subst h0
        exact wfirst_none a cap l w hS hR hF
      · exact wfirst_ok hCF a n cap l w hS hR hD hF (by omega) hz (by omega)
    · exact wfirst_bad hCF a n cap l w hS hR hD hF (by omega) hz
end wireFirst
end Go.Proofs.YthdhhmflfdbkhaaDoor
