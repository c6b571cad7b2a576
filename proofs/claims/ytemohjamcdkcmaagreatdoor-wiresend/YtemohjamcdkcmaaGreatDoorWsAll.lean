/- The law WireSend: of any frames that are sent at a time the document's bits are on the bus, and one goes through, errors too. -/
import Derived.Test.YtemohjamcdkcmaaGreatDoorW4
import Derived.Test.YtemohjamcdkcmaaGreatDoorRF
import Derived.Test.YtemohjamcdkcmaaGreatDoorW1
import Derived.Test.YtemohjamcdkcmaaGreatDoorW3
import Derived.Test.YtemohjamcdkcmaaGreatDoorC2
import Derived.Test.YtemohjamcdkcmaaGreatDoorC22
namespace Go.Proofs.YtemohjamcdkcmaaGreatDoor
open Go.ChangeShapes Go.WideShapes Go.ChangeAt Go.RowKit
namespace Bw
open Bm Cm
set_option maxHeartbeats 8000000 in
set_option maxRecDepth 100000 in
theorem wsend_many (a : Option Addr) (n cap : Nat) (l : List FrV) (w : World) (hS : SizesAt w) (hR : RulesAt w) (hF : IsFrames w a n cap l) (h : 6 < n) :
    Calls Tryz.prog 5 #[.slice a n cap] w fun e w' => e = .returned (.bool true) ∧ Below w.heap.size w w' := by
  have HA1 := Hid.mk (send_many a n cap w h)
  have HA2 := Hid.mk (fun W h1 h2 => wired_any W h1 h2)
  have hmx : n ≤ 9223372036854775807 := by have h1 := hF.le; have h2 := hF.max; unfold maxLen at h2; omega
  have HF := Hid.mk hF
  have HS := Hid.mk hS
  have HR := Hid.mk hR
  have h2 : (6 : Int) < (n : Int) := by omega
  clear hS hR hF
  go_enter Tryz.func5, Tryz.ntmps5
  go_wp2_with fail
  refine HA1.out.mono ?_
  rintro e w1 ⟨rfl, hw⟩
  subst hw
  go_wp2_with fail
  go_loopw [7, 33] (fun b i wr => ∃ k : Nat, k ≤ n ∧ i = .int .i64 k ∧ b = .int .i64 2 ∧ Hid (Below w1.heap.size w1 wr)) (fun _ i _ => n - (intOf i).toNat)
  case atStart => exact ⟨0, Nat.zero_le _, rfl, rfl, Hid.mk (Below.refl _ _)⟩
  case round =>
    obtain ⟨k, hk, rfl, rfl, HB⟩ := hrel
    by_cases hlt : k < n
    · have hlt' : (k : Int) < (n : Int) := by omega
      have hkl : k < l.length := by rw [HF.out.len]; exact hlt
      cases a with
      | none => exact absurd (HF.out.none rfl) (by omega)
      | some x =>
        have cc := fun (j : Nat) (hj : j < 6) => cell_kept HB.out (HF.out.cell x rfl k hkl j hj)
        generalize l[k] = v at *
        obtain ⟨f, fa, fl, fc⟩ := v
        have c0 := cc 0 (by omega)
        have c1 := cc 1 (by omega)
        have c2 := cc 2 (by omega)
        have c3 := cc 3 (by omega)
        have c4 := cc 4 (by omega)
        have c5 := cc 5 (by omega)
        rw [add_next] at c1 c2 c3 c4 c5
        rw [Nat.add_zero] at c0
        simp only [FrV.cells, List.getElem_cons_zero, List.getElem_cons_succ, Nat.reduceAdd] at c0 c1 c2 c3 c4 c5
        have HB2 := Hid.mk (bl2 HB.out (below_box wr f.id f.lo f.fa f.re f.sz fa fl fc))
        unfold frameC at HB2
        clear cc
        go_wp2_with fail
        go_roundw
        case rel => exact ⟨k + 1, by omega, by go_num, rfl, HB2⟩
        case measure => simp [intOf]; omega
    · have e : k = n := by omega
      subst e
      go_wp2_with fail
      refine (HA2.out _ (HS.out.kept HB.out) (HR.out.kept HB.out)).mono ?_
      rintro e w2 ⟨rfl, hb2⟩
      have HB2 := Hid.mk (bl2 HB.out hb2)
      clear hb2
      go_wp2_with fail
      refine (HA2.out _ (HS.out.kept HB2.out) (HR.out.kept HB2.out)).mono ?_
      rintro e w3 ⟨rfl, hb3⟩
      have HB3 := Hid.mk (bl2 HB2.out hb3)
      clear hb3
      go_wp2_with fail
      go_ret
      exact ⟨rfl, HB3.out⟩
set_option maxHeartbeats 8000000 in
theorem wsend_none (a : Option Addr) (cap : Nat) (w : World) (hS : SizesAt w) (hR : RulesAt w) :
    Calls Tryz.prog 5 #[.slice a 0 cap] w fun e w' => e = .returned (.bool true) ∧ Below w.heap.size w w' := by
  have HA1 := Hid.mk (send_none a 0 cap w rfl)
  have HA2 := Hid.mk (fun W h1 h2 => wired_any W h1 h2)
  have HS := Hid.mk hS
  have HR := Hid.mk hR
  have HB := Hid.mk (Below.refl w.heap.size w)
  clear hS hR
  go_enter Tryz.func5, Tryz.ntmps5
  go_wp2_with fail
  refine HA1.out.mono ?_
  rintro e w1 ⟨rfl, hw⟩
  subst hw
  go_wp2_with fail
  go_loopw [7, 33] (fun b i wr => b = .int .i64 8 ∧ i = .int .i64 0 ∧ wr = w1) (fun _ _ _ => 0)
  case atStart => exact ⟨rfl, rfl, rfl⟩
  case round =>
    obtain ⟨rfl, rfl, hwr⟩ := hrel
    subst hwr
    go_wp2_with fail
    refine (HA2.out _ (HS.out.kept HB.out) (HR.out.kept HB.out)).mono ?_
    rintro e w2 ⟨rfl, hb2⟩
    have HB2 := Hid.mk (bl2 HB.out hb2)
    clear hb2
    go_wp2_with fail
    refine (HA2.out _ (HS.out.kept HB2.out) (HR.out.kept HB2.out)).mono ?_
    rintro e w3 ⟨rfl, hb3⟩
    have HB3 := Hid.mk (bl2 HB2.out hb3)
    clear hb3
    go_wp2_with fail
    go_ret
    exact ⟨rfl, HB3.out⟩
end Bw
end Go.Proofs.YtemohjamcdkcmaaGreatDoor
namespace Go.Proofs.YtemohjamcdkcmaaGreatDoor
open Go.ChangeShapes Go.WideShapes Go.ChangeAt Go.RowKit
namespace Bw
open Bm Cm
set_option maxHeartbeats 16000000 in
set_option maxRecDepth 100000 in
theorem wsend_bad (hCF : CheckF) (a : Option Addr) (n cap : Nat) (l : List FrV) (w : World) (hS : SizesAt w) (hR : RulesAt w) (hD : w.cell? ⟨5, 1, none⟩ = some (.int .u8 1)) (hF : IsFrames w a n cap l) (h0 : 0 < n) (h6 : n ≤ 6) (hz : firE (l.map (·.f)) ≠ 0) :
    Calls Tryz.prog 5 #[.slice a n cap] w fun e w' => e = .returned (.bool true) ∧ Below w.heap.size w w' := by
  obtain ⟨i0, hi, hz0, hz1, hz2⟩ := info_parts info_str
  have HA1 := Hid.mk (send_bad a n cap l w hS hR hF h0 h6 hz)
  generalize hce : firE (l.map (·.f)) = ce at *
  have HCE := Hid.mk hce
  have HNZ := Hid.mk hz
  have hne : (ce != 0) = true := by simpa using hz
  have hnq : (ce == 0) = false := by simpa using hz
  have HA2 := Hid.mk (fun W h1 h2 => wired_any W h1 h2)
  have HCF := Hid.mk hCF
  have HS0 := Hid.mk hS
  have HR0 := Hid.mk hR
  have HD0 := Hid.mk hD
  have HF0 := Hid.mk hF
  have h0' : ((n : Int) == 0) = false := by rw [beq_eq_false_iff_ne]; omega
  have h6' : (n : Int) ≤ 6 := by omega
  clear hce hS hR hD hz hCF hF
  go_enter Tryz.func5, Tryz.ntmps5
  go_wp2_with fail
  refine HA1.out.mono ?_
  rintro e w1 ⟨rfl, hb1⟩
  have HF := Hid.mk (HF0.out.kept hb1)
  have HS := Hid.mk (HS0.out.kept hb1)
  have HR := Hid.mk (HR0.out.kept hb1)
  have HD1 := Hid.mk (cell_kept hb1 HD0.out)
  have HW1 := Hid.mk hb1
  clear hb1 HA1 HF0 HS0 HR0 HD0
  go_wp2_with fail
  go_loopw [7, 8, 33] (fun b r i wr => ∃ k : Nat, k ≤ n ∧ i = .int .i64 k ∧ ((b = .int .i64 0 ∧ Hid (wr.ownsRow w1.heap.size 9 1 r k (strC ((l.take k).map fun v => bitsL v.f))) ∧ Hid (∀ v ∈ l.take k, frE v.f = 0)) ∨ b = .int .i64 ce) ∧ Hid (Below w1.heap.size w1 wr)) (fun _ _ i _ => n - (intOf i).toNat)
  case atStart => exact ⟨0, Nat.zero_le _, rfl, .inl ⟨rfl, Hid.mk (by simpa [strC] using World.ownsRow_nil _ _ _ _), Hid.mk (by simp)⟩, Hid.mk (Below.refl _ _)⟩
  case round =>
    obtain ⟨k, hk, rfl, hcase, HB⟩ := hrel
    by_cases hlt : k < n
    · have hlt' : (k : Int) < (n : Int) := by omega
      have hkl : k < l.length := by rw [HF.out.len]; exact hlt
      cases a with
      | none => exact absurd (HF.out.none rfl) (by omega)
      | some x =>
        have cc := fun (j : Nat) (hj : j < 6) => cell_kept HB.out (HF.out.cell x rfl k hkl j hj)
        have hby := isBytes_below (HF.out.bytes k hkl) (show Below w1.heap.size w1 wr from HB.out)
        have hfir := firE_take l k hkl
        have hall := fun h => take_all hkl h
        have htk : strC ((l.take (k + 1)).map fun v => bitsL v.f) = strC ((l.take k).map fun v => bitsL v.f) ++ [.string ⟨(bitsL l[k].f).toArray⟩] := by
          rw [List.take_succ_eq_append_getElem hkl, List.map_append, strC_append]; rfl
        generalize l[k] = v at *
        obtain ⟨f, fa, fl, fc⟩ := v
        have c0 := cc 0 (by omega)
        have c1 := cc 1 (by omega)
        have c2 := cc 2 (by omega)
        have c3 := cc 3 (by omega)
        have c4 := cc 4 (by omega)
        have c5 := cc 5 (by omega)
        rw [add_next] at c1 c2 c3 c4 c5
        rw [Nat.add_zero] at c0
        simp only [FrV.cells, List.getElem_cons_zero, List.getElem_cons_succ, Nat.reduceAdd] at c0 c1 c2 c3 c4 c5
        simp only at hby hfir hall htk
        have hbx := below_box wr f.id f.lo f.fa f.re f.sz fa fl fc
        have hby2 := isBytes_below hby hbx
        have hB2 := bl2 HB.out hbx
        have ha := HCF.out.fr f fa fl fc _ hby2
        have HK2 := Hid.mk (FrAt.box wr f.id f.lo f.fa f.re f.sz fa fl fc)
        have HY2 := Hid.mk hby2
        have HB2 := Hid.mk hB2
        have HFI := Hid.mk hfir
        have HAL := Hid.mk hall
        have HTK := Hid.mk htk
        clear cc hfir hall htk hby hby2 hbx hB2
        unfold frameC at ha HB2 HK2 HY2
        unfold frameV at ha
        rcases hcase with ⟨rfl, HO, HZ⟩ | rfl
        · by_cases hE : frE f = 0
          · have hbo := fun W hW hB => bitsOf_any f fa fl fc W hW hE hB
            unfold frameV at hbo
            rw [hE] at ha
            have HA := Hid.mk ha
            have HNM := Hid.mk hbo
            have HE := Hid.mk hE
            have HO2 := Hid.mk (HO.out.alloc (frameC f.id f.lo f.fa f.re f.sz fa fl fc))
            unfold frameC at HO2
            generalize ByteArray.mk (bitsL f).toArray = X at *
            clear ha hE hbo
            go_wp2_with fail
            refine HA.out.mono ?_
            rintro e w3 ⟨rfl, hb3⟩
            have HO3 := Hid.mk (ownsRow_below HO2.out hb3)
            have HB3 := Hid.mk (bl2 HB2.out hb3)
            have HY3 := Hid.mk (isBytes_below HY2.out hb3)
            obtain ⟨k0, k1, k2, k3, k4, k5⟩ := HK2.out.kept hb3
            clear hb3 HO2 HB2 HO HB HA HK2 HY2
            go_wp2_with fail
            refine (HNM.out _ (cell_kept HB3.out HD1.out) HY3.out).mono ?_
            rintro e w4 ⟨rfl, hb4⟩
            have HO4 := Hid.mk (ownsRow_below HO3.out hb4)
            have HB4 := Hid.mk (bl2 HB3.out hb4)
            clear hb4 HO3 HB3 HNM k0 k1 k2 k3 k4 k5
            go_wp2_with (at_builtin; refine wpList_append_own _ rfl (.tmp 43) (.tmp 46) 42 rfl w1.heap.size 9 i0 (.string ⟨#[]⟩) 1 16 Tryz.underlying42 hi hz0 hz1 hz2 rfl (by decide) _ _ _ rfl (HO4.out.alloc _) ⟨w4.heap.size, 0, none⟩ 1 1 [Value.string X] rfl rfl (by intro q u hq; match q, hq with | 0, hq => (simp at hq; subst hq; simp [Addr.add])) (by intro u hu; simp at hu; subst hu; rfl) (by unfold maxLen; omega) (by omega) (by have := HB4.out.size; simp; omega) ?_; intro v3 w5 hown3 hgrow3 _)
            have hB5 : Below w1.heap.size w1 w5 := Below.grown (HB4.out.alloc HB4.out.size _) hgrow3 (by have := HB4.out.size; simp; omega) (fun q hq => (HO4.out.lt q hq).1)
            rw [← HTK.out] at hown3
            clear hgrow3
            go_roundw
            case rel => exact ⟨k + 1, by omega, by go_num, .inl ⟨rfl, Hid.mk hown3, Hid.mk (HAL.out HZ.out HE.out)⟩, Hid.mk hB5⟩
            case measure => simp [intOf]; omega
          · have hfe : frE f = ce := (HFI.out HZ.out hE).symm.trans HCE.out
            rw [hfe] at ha
            have HA := Hid.mk ha
            clear ha hE hfe
            go_wp2_with fail
            refine HA.out.mono ?_
            rintro e w3 ⟨rfl, hb3⟩
            have HB3 := Hid.mk (bl2 HB2.out hb3)
            clear hb3 HB2 HB HA
            go_wp2_with fail
            go_roundw
            case rel => exact ⟨k + 1, by omega, by go_num, .inr rfl, HB3⟩
            case measure => simp [intOf]; omega
        · clear ha
          go_wp2_with fail
          go_roundw
          case rel => exact ⟨k + 1, by omega, by go_num, .inr rfl, HB2⟩
          case measure => simp [intOf]; omega
    · have e : k = n := by omega
      subst e
      rcases hcase with ⟨rfl, HO, HZ⟩ | rfl
      · exfalso
        have hz := HZ.out
        rw [List.take_of_length_le (by have := HF.out.len; omega)] at hz
        exact HNZ.out (HCE.out.symm.trans ((firE_zero _).2 (fun f hf => by
          obtain ⟨v, hv, rfl⟩ := List.mem_map.1 hf
          exact hz v hv)))
      · go_wp2_with fail
        refine (HA2.out _ (HS.out.kept HB.out) (HR.out.kept HB.out)).mono ?_
        rintro e w2 ⟨rfl, hb2⟩
        have HB2 := Hid.mk (bl2 HB.out hb2)
        clear hb2
        go_wp2_with fail
        refine (HA2.out _ (HS.out.kept HB2.out) (HR.out.kept HB2.out)).mono ?_
        rintro e w3 ⟨rfl, hb3⟩
        have HB3 := Hid.mk (bl2 HB2.out hb3)
        clear hb3
        go_wp2_with fail
        go_ret
        exact ⟨rfl, bl2 HW1.out HB3.out⟩
end Bw
end Go.Proofs.YtemohjamcdkcmaaGreatDoor
namespace Go.Proofs.YtemohjamcdkcmaaGreatDoor
open Go.ChangeShapes Go.WideShapes Go.ChangeAt Go.RowKit
namespace Bw
open Bm
theorem min2_any (a b : List UInt8) (w : World) : (Builtin.min_ #[9, 9] 9 #[.string ⟨a.toArray⟩, .string ⟨b.toArray⟩]).run Tryz.prog w = .ok (.string ⟨(minB a b).toArray⟩) w := by
  have key : (if Op.bytesLess b a = true then ByteArray.mk b.toArray else ByteArray.mk a.toArray) = ⟨(minB a b).toArray⟩ := by
    unfold minB; split <;> rfl
  rw [← key]
  simp [Builtin.min_, Builtin.min2, Op.stringOp, ByteArray.toList_eq, asBool]
  by_cases h : Op.bytesLess b a = true
  · have h2 := less_not h
    have h3 : a ≠ b := fun e => less_ne h e.symm
    simp [h, h2, h3]
  · have h1 : Op.bytesLess b a = false := by simpa using h
    by_cases h2 : Op.bytesLess a b = true
    · simp [h1, h2]
    · have h3 : a = b := less_tot a b (by simpa using h2) h1
      subst h3; simp
set_option maxHeartbeats 1000000 in
theorem minS_any (g n c : Nat) (rows : List (List UInt8)) (w : World) (hn : rows.length = n) (h0 : 0 < n) (hm : n ≤ 1000) (hx : StrsAt w g 0 rows) :
    Calls Tryz.prog 23 #[.slice (some ⟨g, 0, none⟩) n c] w fun e w' => e = .returned (.string ⟨(minL rows).toArray⟩) ∧ w' = w := by
  have HX := Hid.mk hx
  have HN := Hid.mk hn
  have hc0 := hx 0 (by omega)
  have h0' : (1 : Int) ≤ (n : Int) := by omega
  simp only [Nat.zero_add] at hc0
  clear hx hn
  go_enter Tryz.func23, Tryz.ntmps23
  go_wp2_with fail
  go_loopw [3, 4] (fun m i wr => ∃ j : Nat, 1 ≤ j ∧ j ≤ n ∧ i = .int .i64 j ∧ m = .string ⟨(minJ rows (j - 1)).toArray⟩ ∧ wr = w) (fun _ i _ => n - (intOf i).toNat)
  case atStart => exact ⟨1, by omega, by omega, rfl, by simp [minJ], rfl⟩
  case round =>
    obtain ⟨j, hj1, hj, rfl, rfl, hwr⟩ := hrel
    subst hwr
    by_cases hlt : j < n
    · have hc := HX.out j (by rw [HN.out]; exact hlt)
      have hlt' : (j : Int) < (n : Int) := by omega
      simp only [Nat.zero_add] at hc
      have hjl : j - 1 + 1 = j := by omega
      have hmj : minJ rows j = minB (minJ rows (j - 1)) (rows.getD j []) := by rw [← hjl, minJ, hjl]
      have HMIN := Hid.mk (min2_any (minJ rows (j - 1)) (rows.getD j []) wr)
      rw [← hmj] at HMIN
      have HMJ := Hid.mk (show Value.string ⟨(minJ rows j).toArray⟩ = .string ⟨(minJ rows (j + 1 - 1)).toArray⟩ from rfl)
      generalize minJ rows j = M1 at *
      generalize ByteArray.mk (minJ rows (j - 1)).toArray = M0 at *
      generalize ByteArray.mk (rows.getD j []).toArray = R1 at *
      have hmin := HMIN.out
      clear hmj hjl
      go_wp2_with fail
      go_roundw
      case rel => exact ⟨j + 1, by omega, by omega, by go_num, HMJ.out, by first | rfl | trivial⟩
      case measure => simp [intOf]; omega
    · have e : j = n := by omega
      subst e
      have HL := Hid.mk (show minJ rows (j - 1) = minL rows by unfold minL; rw [HN.out])
      go_wp2_with fail
      go_ret
      exact ⟨by rw [← HL.out]; rfl, rfl⟩
end Bw
end Go.Proofs.YtemohjamcdkcmaaGreatDoor
namespace Go.Proofs.YtemohjamcdkcmaaGreatDoor
namespace Bw
open Bm
theorem beq_rows : (instBEqOfDecidableEq : BEq (List UInt8)) = List.instBEq := by
  have h : ∀ a b : List UInt8, @BEq.beq _ instBEqOfDecidableEq a b = @BEq.beq _ List.instBEq a b := fun a b =>
    Bool.eq_iff_iff.2 ((@beq_iff_eq _ instBEqOfDecidableEq _ a b).trans (@beq_iff_eq _ List.instBEq _ a b).symm)
  exact congrArg BEq.mk (funext fun a => funext fun b => h a b)
theorem onlyE_rows {l : List (List UInt8)} {x : List UInt8} (h : x ∈ l) : onlyE l x = if 1 < l.count x then 9 else 0 := by
  rw [onlyE_mem h, beq_rows]
end Bw
end Go.Proofs.YtemohjamcdkcmaaGreatDoor
namespace Go.Proofs.YtemohjamcdkcmaaGreatDoor
namespace Bw
open Bm
theorem take_more {a b : List UInt8} {k : Nat} (h1 : k < a.length) (h2 : k < b.length) (ht : a.take k = b.take k) (he : a.getD k 0 = b.getD k 0) : a.take (k + 1) = b.take (k + 1) := by
  rw [List.take_succ_eq_append_getElem h1, List.take_succ_eq_append_getElem h2, ht]
  have e1 : a.getD k 0 = a[k] := by simp [List.getD, h1]
  have e2 : b.getD k 0 = b[k] := by simp [List.getD, h2]
  rw [← e1, ← e2, he]
theorem take_at {a b : List UInt8} {k j : Nat} (hj : j < k) (ht : a.take k = b.take k) : a.getD j 0 = b.getD j 0 := by
  have := congrArg (fun l => List.getD l j 0) ht
  simpa [List.getD, List.getElem?_take, hj] using this
theorem pre_at {a b : List UInt8} {k : Nat} (h1 : k < a.length) (hp : a <+: b) : a.getD k 0 = b.getD k 0 := by
  obtain ⟨t, rfl⟩ := hp
  simp [List.getD, List.getElem?_append_left h1]
theorem dif_at {a b : List UInt8} {k : Nat} (h1 : k < a.length) (h2 : k < b.length) (ht : a.take k = b.take k) (hne : a.getD k 0 ≠ b.getD k 0) : dif a b = k := by
  rcases dif_cases a b with ⟨_, hp | hp⟩ | ⟨j, hj, _, _, ht2, hne2⟩
  · exact absurd (pre_at h1 hp) hne
  · exact absurd (pre_at h2 hp).symm hne
  · rcases Nat.lt_trichotomy j k with h | h | h
    · exact absurd (take_at h ht) hne2
    · rw [hj, h]
    · exact absurd (take_at h ht2) hne
theorem dif_none {a b : List UInt8} {m : Nat} (ht : a.take m = b.take m) (hm : m = a.length ∨ m = b.length) : dif a b = -1 := by
  rcases dif_cases a b with ⟨h, _⟩ | ⟨j, hj, j1, j2, _, hne⟩
  · exact h
  · exfalso
    refine hne (take_at (k := m) ?_ ht)
    omega
end Bw
end Go.Proofs.YtemohjamcdkcmaaGreatDoor
namespace Go.Proofs.YtemohjamcdkcmaaGreatDoor
open Go.ChangeShapes Go.WideShapes Go.ChangeAt Go.RowKit
namespace Bw
open Bm Cm
set_option maxHeartbeats 16000000 in
set_option maxRecDepth 100000 in
theorem wsend_twice (hCF : CheckF) (a : Option Addr) (n cap : Nat) (l : List FrV) (w : World) (hS : SizesAt w) (hR : RulesAt w) (hD : w.cell? ⟨5, 1, none⟩ = some (.int .u8 1)) (hF : IsFrames w a n cap l) (h0 : 0 < n) (h6 : n ≤ 6) (hz : firE (l.map (·.f)) = 0) (hO : onlyE (difsL l) (-1) ≠ 0) :
    Calls Tryz.prog 5 #[.slice a n cap] w fun e w' => e = .returned (.bool true) ∧ Below w.heap.size w w' := by
  obtain ⟨i0, hi, hz0, hz1, hz2⟩ := info_parts info_str
  obtain ⟨j0, hj0, hy0, hy1, hy2⟩ := info_parts info_int
  obtain ⟨hlen, hrow, hA, hL⟩ := rows_facts l hz (by rw [hF.len]; omega)
  have hrl : (rowsL l).length = n := by rw [rowsL, List.length_map, hF.len]
  have hdl : (difsL l).length = n := by rw [difsL, List.length_map, hrl]
  have hoe : onlyE (difsL l) (-1) = if 1 < (difsL l).count (-1) then 9 else 0 := onlyE_mem (dif_mem hL.1)
  have hcnt : 1 < (difsL l).count (-1) := by
    rcases Classical.em (1 < (difsL l).count (-1)) with h | h
    · exact h
    · rw [if_neg h] at hoe; exact absurd hoe hO
  have HA1 := Hid.mk (send_twice a n cap l w hS hR hF h0 h6 hz hO)
  rw [if_pos hcnt] at hoe
  rw [hoe] at HA1
  have HM := Hid.mk (fun g c W hX => minS_any g n c (rowsL l) W hrl h0 (by omega) hX)
  have hbl : (bestL l).length ≤ 900 := hlen _ hL.1
  obtain ⟨BT, hBT⟩ : ∃ BT : ByteArray, BT = ⟨(bestL l).toArray⟩ := ⟨_, rfl⟩
  have hBl : BT.data.toList = bestL l := by rw [hBT]
  have hBs : BT.size ≤ 900 := by rw [ba_size hBl]; exact hbl
  have hmb : ByteArray.mk (minL (rowsL l)).toArray = BT := hBT.symm
  rw [hmb] at HM
  have HBl := Hid.mk hBl
  have HRL := Hid.mk hrl
  have HDL := Hid.mk hdl
  have HLE := Hid.mk hlen
  have HAp := Hid.mk hA
  have HLe := Hid.mk hL
  have HCN := Hid.mk hcnt
  have HZA := Hid.mk (show ∀ v ∈ l, frE v.f = 0 from fun v hv => (firE_zero _).1 hz v.f (List.mem_map.2 ⟨v, hv, rfl⟩))
  have HA2 := Hid.mk (fun W h1 h2 => wired_any W h1 h2)
  have HCF := Hid.mk hCF
  have HS0 := Hid.mk hS
  have HR0 := Hid.mk hR
  have HD0 := Hid.mk hD
  have HF0 := Hid.mk hF
  have h0' : ((n : Int) == 0) = false := by rw [beq_eq_false_iff_ne]; omega
  have h6' : (n : Int) ≤ 6 := by omega
  clear hlen hrow hA hL hrl hdl hoe hcnt hbl hBT hBl hmb hS hR hD hF hz hO hCF
  go_enter Tryz.func5, Tryz.ntmps5
  go_wp2_with fail
  refine HA1.out.mono ?_
  rintro e w1 ⟨rfl, hb1⟩
  have HF := Hid.mk (HF0.out.kept hb1)
  have HS := Hid.mk (HS0.out.kept hb1)
  have HR := Hid.mk (HR0.out.kept hb1)
  have HD1 := Hid.mk (cell_kept hb1 HD0.out)
  have HW1 := Hid.mk hb1
  clear hb1 HA1 HF0 HS0 HR0 HD0
  go_wp2_with fail
  go_loopw [7, 8, 33] (fun b r i wr => ∃ k : Nat, k ≤ n ∧ i = .int .i64 k ∧ b = .int .i64 0 ∧ Hid (wr.ownsRow w1.heap.size 9 1 r k (strC ((l.take k).map fun v => bitsL v.f))) ∧ Hid (Below w1.heap.size w1 wr)) (fun _ _ i _ => n - (intOf i).toNat)
  case atStart => exact ⟨0, Nat.zero_le _, rfl, rfl, Hid.mk (by simpa [strC] using World.ownsRow_nil _ _ _ _), Hid.mk (Below.refl _ _)⟩
  case round =>
    obtain ⟨k, hk, rfl, rfl, HO, HB⟩ := hrel
    by_cases hlt : k < n
    · have hlt' : (k : Int) < (n : Int) := by omega
      have hkl : k < l.length := by rw [HF.out.len]; exact hlt
      cases a with
      | none => exact absurd (HF.out.none rfl) (by omega)
      | some x =>
        have hE0 := HZA.out l[k] (List.getElem_mem hkl)
        have cc := fun (j : Nat) (hj : j < 6) => cell_kept HB.out (HF.out.cell x rfl k hkl j hj)
        have hby := isBytes_below (HF.out.bytes k hkl) (show Below w1.heap.size w1 wr from HB.out)
        have htk : strC ((l.take (k + 1)).map fun v => bitsL v.f) = strC ((l.take k).map fun v => bitsL v.f) ++ [.string ⟨(bitsL l[k].f).toArray⟩] := by
          rw [List.take_succ_eq_append_getElem hkl, List.map_append, strC_append]; rfl
        generalize l[k] = v at *
        obtain ⟨f, fa, fl, fc⟩ := v
        have c0 := cc 0 (by omega)
        have c1 := cc 1 (by omega)
        have c2 := cc 2 (by omega)
        have c3 := cc 3 (by omega)
        have c4 := cc 4 (by omega)
        have c5 := cc 5 (by omega)
        rw [add_next] at c1 c2 c3 c4 c5
        rw [Nat.add_zero] at c0
        simp only [FrV.cells, List.getElem_cons_zero, List.getElem_cons_succ, Nat.reduceAdd] at c0 c1 c2 c3 c4 c5
        simp only at hby htk hE0
        have hbx := below_box wr f.id f.lo f.fa f.re f.sz fa fl fc
        have hby2 := isBytes_below hby hbx
        have hB2 := bl2 HB.out hbx
        have ha := HCF.out.fr f fa fl fc _ hby2
        have HK2 := Hid.mk (FrAt.box wr f.id f.lo f.fa f.re f.sz fa fl fc)
        have HY2 := Hid.mk hby2
        have HB2 := Hid.mk hB2
        have HTK := Hid.mk htk
        clear cc htk hby hby2 hbx hB2
        unfold frameC at ha HB2 HK2 HY2
        unfold frameV at ha
        have hE : frE f = 0 := hE0
        clear hE0
        have hbo := fun W hW hB => bitsOf_any f fa fl fc W hW hE hB
        unfold frameV at hbo
        rw [hE] at ha
        have HA := Hid.mk ha
        have HNM := Hid.mk hbo
        have HO2 := Hid.mk (HO.out.alloc (frameC f.id f.lo f.fa f.re f.sz fa fl fc))
        unfold frameC at HO2
        generalize ByteArray.mk (bitsL f).toArray = X at *
        clear ha hE hbo
        go_wp2_with fail
        refine HA.out.mono ?_
        rintro e w3 ⟨rfl, hb3⟩
        have HO3 := Hid.mk (ownsRow_below HO2.out hb3)
        have HB3 := Hid.mk (bl2 HB2.out hb3)
        have HY3 := Hid.mk (isBytes_below HY2.out hb3)
        obtain ⟨k0, k1, k2, k3, k4, k5⟩ := HK2.out.kept hb3
        clear hb3 HO2 HB2 HO HB HA HK2 HY2
        go_wp2_with fail
        refine (HNM.out _ (cell_kept HB3.out HD1.out) HY3.out).mono ?_
        rintro e w4 ⟨rfl, hb4⟩
        have HO4 := Hid.mk (ownsRow_below HO3.out hb4)
        have HB4 := Hid.mk (bl2 HB3.out hb4)
        clear hb4 HO3 HB3 HNM k0 k1 k2 k3 k4 k5
        go_wp2_with (at_builtin; refine wpList_append_own _ rfl (.tmp 43) (.tmp 46) 42 rfl w1.heap.size 9 i0 (.string ⟨#[]⟩) 1 16 Tryz.underlying42 hi hz0 hz1 hz2 rfl (by decide) _ _ _ rfl (HO4.out.alloc _) ⟨w4.heap.size, 0, none⟩ 1 1 [Value.string X] rfl rfl (by intro q u hq; match q, hq with | 0, hq => (simp at hq; subst hq; simp [Addr.add])) (by intro u hu; simp at hu; subst hu; rfl) (by unfold maxLen; omega) (by omega) (by have := HB4.out.size; simp; omega) ?_; intro v3 w5 hown3 hgrow3 _)
        have hB5 : Below w1.heap.size w1 w5 := Below.grown (HB4.out.alloc HB4.out.size _) hgrow3 (by have := HB4.out.size; simp; omega) (fun q hq => (HO4.out.lt q hq).1)
        rw [← HTK.out] at hown3
        clear hgrow3
        go_roundw
        case rel => exact ⟨k + 1, by omega, by go_num, rfl, Hid.mk hown3, Hid.mk hB5⟩
        case measure => simp [intOf]; omega
    · have e : k = n := by omega
      subst e
      have hown := HO.out
      rw [List.take_of_length_le (by have := HF.out.len; omega)] at hown
      have hown2 : wr.ownsRow w1.heap.size 9 1 u8 k (strC (rowsL l)) := hown
      obtain ⟨gr, cr, rfl, -, -⟩ := owns_some hown2 h0
      have HX0 := Hid.mk (strs_of hown2)
      clear hown hown2 HO
      go_wp2_with fail
      refine (HA2.out _ (HS.out.kept HB.out) (HR.out.kept HB.out)).mono ?_
      rintro e w3 ⟨rfl, hb3⟩
      have HX3 := Hid.mk (show StrsAt w3 gr 0 (rowsL l) from fun i hi => cell_kept hb3 (HX0.out i hi))
      have HB3 := Hid.mk (bl2 HB.out hb3)
      clear hb3 HX0 HB
      go_wp2_with fail
      refine (HM.out _ _ _ HX3.out).mono ?_
      rintro e w4 ⟨rfl, hw4⟩
      subst hw4
      go_wp2_with fail
      go_loopw [11, 12, 13, 78] (fun b gv th i wr => ∃ j : Nat, j ≤ k ∧ i = .int .i64 j ∧ b = .string BT ∧ th = .int .i64 (((difsL l).take j).count (-1)) ∧ Hid (wr.ownsRow w4.heap.size 3 1 gv j (intC ((difsL l).take j))) ∧ Hid (Below w4.heap.size w4 wr)) (fun _ _ _ i _ => k - (intOf i).toNat)
      case atStart => exact ⟨0, Nat.zero_le _, rfl, rfl, rfl, Hid.mk (by simpa [intC] using World.ownsRow_nil _ _ _ _), Hid.mk (Below.refl _ _)⟩
      case round =>
        obtain ⟨j, hj, rfl, rfl, rfl, HG, HB4⟩ := hrel
        by_cases hjk : j < k
        · have hjk' : (j : Int) < (k : Int) := by omega
          have hjl : j < (rowsL l).length := by rw [HRL.out]; exact hjk
          have hc := cell_kept HB4.out (HX3.out j hjl)
          rw [Nat.zero_add] at hc
          obtain ⟨R, hR⟩ : ∃ R : ByteArray, R = ⟨((rowsL l).getD j []).toArray⟩ := ⟨_, rfl⟩
          rw [← hR] at hc
          have hRl : R.data.toList = (rowsL l).getD j [] := by rw [hR]
          have hRs : R.size ≤ 900 := by rw [ba_size hRl]; exact HLE.out _ (row_mem _ _ hjl)
          have hcl : ((difsL l).take j).count (-1) ≤ k := Nat.le_trans (List.count_le_length) (by rw [List.length_take]; omega)
          have HRl := Hid.mk hRl
          clear hR hRl
          generalize hcn : ((difsL l).take j).count (-1) = cn at *
          have HCC := Hid.mk hcn
          clear hcn
          have HDE := Hid.mk (show (difsL l).getD j 0 = dif ((rowsL l).getD j []) (bestL l) by
            unfold difsL; simp [List.getD, hjl])
          obtain ⟨wz, hwz⟩ : ∃ wz, wz = wr := ⟨_, rfl⟩
          rw [← hwz] at HG HB4 hc ⊢
          clear hwz
          go_wp2_with fail
          obtain ⟨m, hm, hm1, hm2, hm3⟩ : ∃ m : Nat, min (R.size : Int) (BT.size : Int) = (m : Int) ∧ m ≤ R.size ∧ m ≤ BT.size ∧ (m = R.size ∨ m = BT.size) := by
            rcases Nat.le_total R.size BT.size with h | h
            · exact ⟨R.size, by rw [Int.min_eq_left (by omega)], by omega, by omega, .inl rfl⟩
            · exact ⟨BT.size, by rw [Int.min_eq_right (by omega)], by omega, by omega, .inr rfl⟩
          rw [hm]
          have HM3 := Hid.mk hm3
          clear hm hm3
          go_loopw [16, 88] (fun at_ i wx => ∃ q : Nat, q ≤ m ∧ i = .int .i64 q ∧ at_ = .int .i64 (-1) ∧ Hid (R.data.toList.take q = BT.data.toList.take q) ∧ ∃ z, wx = wz.drewN z) (fun _ i _ => m - (intOf i).toNat)
          case atStart => exact ⟨0, Nat.zero_le _, rfl, rfl, Hid.mk (by simp), 0, rfl⟩
          case round =>
            obtain ⟨q, hq, rfl, rfl, HT, z, rfl⟩ := hrel
            by_cases hqm : q < m
            · have hqm' : (q : Int) < (m : Int) := by omega
              have hq1 : q < R.size := by omega
              have hq2 : q < BT.size := by omega
              have g1 := at_getD R q hq1
              have g2 := at_getD BT q hq2
              by_cases he : R.data.toList.getD q 0 = BT.data.toList.getD q 0
              · have hn1 : ((R[q].toNat : Int) != (BT[q].toNat : Int)) = false := by rw [g1, g2, he]; simp
                have HT2 := Hid.mk (take_more (by simpa using hq1) (by simpa using hq2) HT.out he)
                clear g1 g2 he
                go_wp2_with fail
                go_quiet (fail)
                go_wp2_with fail
                go_roundw
                case rel => exact ⟨q + 1, by omega, by go_num, rfl, HT2, _, rfl⟩
                case measure => simp [intOf]; omega
              · have hn1 : ((R[q].toNat : Int) != (BT[q].toNat : Int)) = true := by
                  rw [g1, g2]
                  simp only [bne_iff_ne]
                  intro hx
                  exact he (UInt8.toNat_inj.1 (by omega))
                have HDF := Hid.mk (dif_at (by simpa using hq1) (by simpa using hq2) HT.out he)
                clear g1 g2 he
                go_wp2_with fail
                go_quiet (fail)
                generalize hW5 : (wz.drewN z).drewN nq = W5
                have HG5 : Hid (W5.ownsRow w4.heap.size 3 1 u12 j (intC ((difsL l).take j))) := by rw [← hW5]; exact HG
                have HB5 : Hid (Below w4.heap.size w4 W5) := by rw [← hW5]; exact Hid.mk (bl2 HB4.out ⟨rfl, rfl, rfl, Nat.le_refl _, fun _ _ => rfl⟩)
                have hdj : (difsL l).getD j 0 = (q : Int) := by rw [HDE.out, ← HRl.out, ← HBl.out]; exact HDF.out
                have hjd : j < (difsL l).length := by rw [HDL.out]; exact hjk
                have hgd : (difsL l)[j] = (q : Int) := by rw [← hdj]; simp [List.getD, hjd]
                have HTA := Hid.mk (show intC ((difsL l).take j) ++ [Value.int .i64 (q : Int)] = intC ((difsL l).take (j + 1)) by
                  rw [List.take_succ_eq_append_getElem hjd, intC_append, hgd]; rfl)
                have HCQ := Hid.mk (show ((difsL l).take (j + 1)).count (-1) = cn by
                  rw [List.take_succ_eq_append_getElem hjd, List.count_append, HCC.out, hgd, List.count_singleton, if_neg (by simp), Nat.add_zero])
                clear hW5 hdj hjd hgd
                go_wp2_with (at_builtin; refine wpList_append_own _ rfl (.tmp 108) (.tmp 110) 39 rfl w4.heap.size 3 j0 (.int .i64 0) 1 8 Tryz.underlying39 hj0 hy0 hy1 hy2 rfl (by decide) _ _ _ rfl (HG5.out.alloc _) ⟨W5.heap.size, 0, none⟩ 1 1 [Value.int .i64 (q : Int)] rfl rfl (by intro q u hq; match q, hq with | 0, hq => (simp at hq; subst hq; simp [Addr.add])) (by intro u hu; simp at hu; subst hu; rfl) (by unfold maxLen; omega) (by omega) (by have := HB5.out.size; simp; omega) ?_; intro v6 w6 hown6 hgrow6 _)
                have hB6 : Below w4.heap.size w4 w6 := Below.grown (HB5.out.alloc HB5.out.size _) hgrow6 (by have := HB5.out.size; simp; omega) (fun q hq => (HG5.out.lt q hq).1)
                rw [HTA.out] at hown6
                clear hgrow6
                go_roundw
                case rel => exact ⟨j + 1, by omega, by go_num, rfl, by rw [HCQ.out], Hid.mk hown6, Hid.mk hB6⟩
                case measure => simp [intOf]; omega
            · have hqe : q = m := by omega
              subst hqe
              have hd1 : dif R.data.toList BT.data.toList = -1 := dif_none HT.out (by
                rcases HM3.out with h | h
                · left; simpa using h
                · right; simpa using h)
              have hRB : R = BT := by
                have e1 := (dif_neg HAp.out (row_mem _ _ hjl) HLe.out.1).1 (by rw [← HRl.out, ← HBl.out]; exact hd1)
                have e2 := HRl.out
                rw [e1, ← HBl.out] at e2
                exact ByteArray.ext (Array.toList_inj.mp e2)
              subst hRB
              generalize hW5 : wz.drewN z = W5
              have HG5 : Hid (W5.ownsRow w4.heap.size 3 1 u12 j (intC ((difsL l).take j))) := by rw [← hW5]; exact HG
              have HB5 : Hid (Below w4.heap.size w4 W5) := by rw [← hW5]; exact Hid.mk (bl2 HB4.out ⟨rfl, rfl, rfl, Nat.le_refl _, fun _ _ => rfl⟩)
              have hdj : (difsL l).getD j 0 = -1 := by rw [HDE.out, ← HRl.out, ← HBl.out]; exact hd1
              have hjd : j < (difsL l).length := by rw [HDL.out]; exact hjk
              have hgd : (difsL l)[j] = -1 := by rw [← hdj]; simp [List.getD, hjd]
              have HTA := Hid.mk (show intC ((difsL l).take j) ++ [Value.int .i64 (-1)] = intC ((difsL l).take (j + 1)) by
                rw [List.take_succ_eq_append_getElem hjd, intC_append, hgd]; rfl)
              have HCQ := Hid.mk (show ((((difsL l).take (j + 1)).count (-1) : Nat) : Int) = (cn : Int) + 1 by
                rw [List.take_succ_eq_append_getElem hjd, List.count_append, HCC.out, hgd, List.count_singleton_self]; simp)
              have heq : (R.toList == R.toList) = true := by simp
              clear hW5 hdj hjd hgd hd1
              go_wp2_with (at_builtin; refine wpList_append_own _ rfl (.tmp 108) (.tmp 110) 39 rfl w4.heap.size 3 j0 (.int .i64 0) 1 8 Tryz.underlying39 hj0 hy0 hy1 hy2 rfl (by decide) _ _ _ rfl (HG5.out.alloc _) ⟨W5.heap.size, 0, none⟩ 1 1 [Value.int .i64 (-1)] rfl rfl (by intro q u hq; match q, hq with | 0, hq => (simp at hq; subst hq; simp [Addr.add])) (by intro u hu; simp at hu; subst hu; rfl) (by unfold maxLen; omega) (by omega) (by have := HB5.out.size; simp; omega) ?_; intro v6 w6 hown6 hgrow6 _)
              have hB6 : Below w4.heap.size w4 w6 := Below.grown (HB5.out.alloc HB5.out.size _) hgrow6 (by have := HB5.out.size; simp; omega) (fun q hq => (HG5.out.lt q hq).1)
              rw [HTA.out] at hown6
              clear hgrow6
              go_roundw
              case rel => exact ⟨j + 1, by omega, by go_num, rfl, by rw [HCQ.out], Hid.mk hown6, Hid.mk hB6⟩
              case measure => simp [intOf]; omega
        · have e : j = k := by omega
          subst e
          have htl : (difsL l).take j = difsL l := List.take_of_length_le (by rw [HDL.out]; omega)
          have hown := HG.out
          rw [htl] at hown ⊢
          obtain ⟨gv, cv, rfl, -, -⟩ := owns_some hown h0
          have HNU := Hid.mk (nums_of hown)
          have hcn := HCN.out
          have HBF := Hid.mk (bl2 HB3.out HB4.out)
          generalize (difsL l).count (-1) = cn at *
          clear htl hown HG
          have hcn' : (1 : Int) < (cn : Int) := by omega
          go_wp2_with fail
          go_ret
          exact ⟨rfl, bl2 HW1.out HBF.out⟩
set_option maxHeartbeats 16000000 in
set_option maxRecDepth 100000 in
theorem wsend_one (hCF : CheckF) (a : Option Addr) (n cap : Nat) (l : List FrV) (w : World) (hS : SizesAt w) (hR : RulesAt w) (hD : w.cell? ⟨5, 1, none⟩ = some (.int .u8 1)) (hF : IsFrames w a n cap l) (h0 : 0 < n) (h6 : n ≤ 6) (hz : firE (l.map (·.f)) = 0) (hO : onlyE (difsL l) (-1) = 0) :
    Calls Tryz.prog 5 #[.slice a n cap] w fun e w' => e = .returned (.bool true) ∧ Below w.heap.size w w' := by
  obtain ⟨i0, hi, hz0, hz1, hz2⟩ := info_parts info_str
  obtain ⟨j0, hj0, hy0, hy1, hy2⟩ := info_parts info_int
  obtain ⟨hlen, hrow, hA, hL⟩ := rows_facts l hz (by rw [hF.len]; omega)
  have hrl : (rowsL l).length = n := by rw [rowsL, List.length_map, hF.len]
  have hdl : (difsL l).length = n := by rw [difsL, List.length_map, hrl]
  have hoe : onlyE (difsL l) (-1) = if 1 < (difsL l).count (-1) then 9 else 0 := onlyE_mem (dif_mem hL.1)
  have hcnt : ¬ 1 < (difsL l).count (-1) := by
    intro h
    rw [if_pos h, hO] at hoe; exact absurd hoe (by decide)
  have HA1 := Hid.mk (send_ok a n cap l w hS hR hF h0 h6 hz hO)
  have HI := Hid.mk (fun g c W hX => indexN g 0 n c (difsL l) (-1) W hdl (by omega) hX)
  have HQ := Hid.mk (fun W g h c d h1 h2 => equalN_true W g h n c d (difsL l) hdl (by omega) h1 h2)
  generalize idxG (difsL l) (-1) = ci at *
  have HM := Hid.mk (fun g c W hX => minS_any g n c (rowsL l) W hrl h0 (by omega) hX)
  have hbl : (bestL l).length ≤ 900 := hlen _ hL.1
  obtain ⟨BT, hBT⟩ : ∃ BT : ByteArray, BT = ⟨(bestL l).toArray⟩ := ⟨_, rfl⟩
  have hBl : BT.data.toList = bestL l := by rw [hBT]
  have hBs : BT.size ≤ 900 := by rw [ba_size hBl]; exact hbl
  have hmb : ByteArray.mk (minL (rowsL l)).toArray = BT := hBT.symm
  rw [hmb] at HM
  rw [← hBT] at HA1
  have HBl := Hid.mk hBl
  have HRL := Hid.mk hrl
  have HDL := Hid.mk hdl
  have HLE := Hid.mk hlen
  have HAp := Hid.mk hA
  have HLe := Hid.mk hL
  have HCN := Hid.mk hcnt
  have HZA := Hid.mk (show ∀ v ∈ l, frE v.f = 0 from fun v hv => (firE_zero _).1 hz v.f (List.mem_map.2 ⟨v, hv, rfl⟩))
  have HA2 := Hid.mk (fun W h1 h2 => wired_any W h1 h2)
  have HCF := Hid.mk hCF
  have HS0 := Hid.mk hS
  have HR0 := Hid.mk hR
  have HD0 := Hid.mk hD
  have HF0 := Hid.mk hF
  have h0' : ((n : Int) == 0) = false := by rw [beq_eq_false_iff_ne]; omega
  have h6' : (n : Int) ≤ 6 := by omega
  clear hlen hrow hA hL hrl hdl hoe hcnt hbl hBT hBl hmb hS hR hD hF hz hO hCF
  go_enter Tryz.func5, Tryz.ntmps5
  go_wp2_with fail
  refine HA1.out.mono ?_
  rintro e w1 ⟨gg, rfl, hown, hb1⟩
  have HLO := Hid.mk (nums_of hown)
  clear hown
  have HF := Hid.mk (HF0.out.kept hb1)
  have HS := Hid.mk (HS0.out.kept hb1)
  have HR := Hid.mk (HR0.out.kept hb1)
  have HD1 := Hid.mk (cell_kept hb1 HD0.out)
  have HW1 := Hid.mk hb1
  clear hb1 HA1 HF0 HS0 HR0 HD0
  go_wp2_with fail
  go_loopw [7, 8, 33] (fun b r i wr => ∃ k : Nat, k ≤ n ∧ i = .int .i64 k ∧ b = .int .i64 0 ∧ Hid (wr.ownsRow w1.heap.size 9 1 r k (strC ((l.take k).map fun v => bitsL v.f))) ∧ Hid (Below w1.heap.size w1 wr)) (fun _ _ i _ => n - (intOf i).toNat)
  case atStart => exact ⟨0, Nat.zero_le _, rfl, rfl, Hid.mk (by simpa [strC] using World.ownsRow_nil _ _ _ _), Hid.mk (Below.refl _ _)⟩
  case round =>
    obtain ⟨k, hk, rfl, rfl, HO, HB⟩ := hrel
    by_cases hlt : k < n
    · have hlt' : (k : Int) < (n : Int) := by omega
      have hkl : k < l.length := by rw [HF.out.len]; exact hlt
      cases a with
      | none => exact absurd (HF.out.none rfl) (by omega)
      | some x =>
        have hE0 := HZA.out l[k] (List.getElem_mem hkl)
        have cc := fun (j : Nat) (hj : j < 6) => cell_kept HB.out (HF.out.cell x rfl k hkl j hj)
        have hby := isBytes_below (HF.out.bytes k hkl) (show Below w1.heap.size w1 wr from HB.out)
        have htk : strC ((l.take (k + 1)).map fun v => bitsL v.f) = strC ((l.take k).map fun v => bitsL v.f) ++ [.string ⟨(bitsL l[k].f).toArray⟩] := by
          rw [List.take_succ_eq_append_getElem hkl, List.map_append, strC_append]; rfl
        generalize l[k] = v at *
        obtain ⟨f, fa, fl, fc⟩ := v
        have c0 := cc 0 (by omega)
        have c1 := cc 1 (by omega)
        have c2 := cc 2 (by omega)
        have c3 := cc 3 (by omega)
        have c4 := cc 4 (by omega)
        have c5 := cc 5 (by omega)
        rw [add_next] at c1 c2 c3 c4 c5
        rw [Nat.add_zero] at c0
        simp only [FrV.cells, List.getElem_cons_zero, List.getElem_cons_succ, Nat.reduceAdd] at c0 c1 c2 c3 c4 c5
        simp only at hby htk hE0
        have hbx := below_box wr f.id f.lo f.fa f.re f.sz fa fl fc
        have hby2 := isBytes_below hby hbx
        have hB2 := bl2 HB.out hbx
        have ha := HCF.out.fr f fa fl fc _ hby2
        have HK2 := Hid.mk (FrAt.box wr f.id f.lo f.fa f.re f.sz fa fl fc)
        have HY2 := Hid.mk hby2
        have HB2 := Hid.mk hB2
        have HTK := Hid.mk htk
        clear cc htk hby hby2 hbx hB2
        unfold frameC at ha HB2 HK2 HY2
        unfold frameV at ha
        have hE : frE f = 0 := hE0
        clear hE0
        have hbo := fun W hW hB => bitsOf_any f fa fl fc W hW hE hB
        unfold frameV at hbo
        rw [hE] at ha
        have HA := Hid.mk ha
        have HNM := Hid.mk hbo
        have HO2 := Hid.mk (HO.out.alloc (frameC f.id f.lo f.fa f.re f.sz fa fl fc))
        unfold frameC at HO2
        generalize ByteArray.mk (bitsL f).toArray = X at *
        clear ha hE hbo
        go_wp2_with fail
        refine HA.out.mono ?_
        rintro e w3 ⟨rfl, hb3⟩
        have HO3 := Hid.mk (ownsRow_below HO2.out hb3)
        have HB3 := Hid.mk (bl2 HB2.out hb3)
        have HY3 := Hid.mk (isBytes_below HY2.out hb3)
        obtain ⟨k0, k1, k2, k3, k4, k5⟩ := HK2.out.kept hb3
        clear hb3 HO2 HB2 HO HB HA HK2 HY2
        go_wp2_with fail
        refine (HNM.out _ (cell_kept HB3.out HD1.out) HY3.out).mono ?_
        rintro e w4 ⟨rfl, hb4⟩
        have HO4 := Hid.mk (ownsRow_below HO3.out hb4)
        have HB4 := Hid.mk (bl2 HB3.out hb4)
        clear hb4 HO3 HB3 HNM k0 k1 k2 k3 k4 k5
        go_wp2_with (at_builtin; refine wpList_append_own _ rfl (.tmp 43) (.tmp 46) 42 rfl w1.heap.size 9 i0 (.string ⟨#[]⟩) 1 16 Tryz.underlying42 hi hz0 hz1 hz2 rfl (by decide) _ _ _ rfl (HO4.out.alloc _) ⟨w4.heap.size, 0, none⟩ 1 1 [Value.string X] rfl rfl (by intro q u hq; match q, hq with | 0, hq => (simp at hq; subst hq; simp [Addr.add])) (by intro u hu; simp at hu; subst hu; rfl) (by unfold maxLen; omega) (by omega) (by have := HB4.out.size; simp; omega) ?_; intro v3 w5 hown3 hgrow3 _)
        have hB5 : Below w1.heap.size w1 w5 := Below.grown (HB4.out.alloc HB4.out.size _) hgrow3 (by have := HB4.out.size; simp; omega) (fun q hq => (HO4.out.lt q hq).1)
        rw [← HTK.out] at hown3
        clear hgrow3
        go_roundw
        case rel => exact ⟨k + 1, by omega, by go_num, rfl, Hid.mk hown3, Hid.mk hB5⟩
        case measure => simp [intOf]; omega
    · have e : k = n := by omega
      subst e
      have hown := HO.out
      rw [List.take_of_length_le (by have := HF.out.len; omega)] at hown
      have hown2 : wr.ownsRow w1.heap.size 9 1 u8 k (strC (rowsL l)) := hown
      obtain ⟨gr, cr, rfl, -, -⟩ := owns_some hown2 h0
      have HX0 := Hid.mk (strs_of hown2)
      clear hown hown2 HO
      go_wp2_with fail
      refine (HA2.out _ (HS.out.kept HB.out) (HR.out.kept HB.out)).mono ?_
      rintro e w3 ⟨rfl, hb3⟩
      have HX3 := Hid.mk (show StrsAt w3 gr 0 (rowsL l) from fun i hi => cell_kept hb3 (HX0.out i hi))
      have HB3 := Hid.mk (bl2 HB.out hb3)
      clear hb3 HX0 HB
      go_wp2_with fail
      refine (HM.out _ _ _ HX3.out).mono ?_
      rintro e w4 ⟨rfl, hw4⟩
      subst hw4
      go_wp2_with fail
      go_loopw [11, 12, 13, 78] (fun b gv th i wr => ∃ j : Nat, j ≤ k ∧ i = .int .i64 j ∧ b = .string BT ∧ th = .int .i64 (((difsL l).take j).count (-1)) ∧ Hid (wr.ownsRow w4.heap.size 3 1 gv j (intC ((difsL l).take j))) ∧ Hid (Below w4.heap.size w4 wr)) (fun _ _ _ i _ => k - (intOf i).toNat)
      case atStart => exact ⟨0, Nat.zero_le _, rfl, rfl, rfl, Hid.mk (by simpa [intC] using World.ownsRow_nil _ _ _ _), Hid.mk (Below.refl _ _)⟩
      case round =>
        obtain ⟨j, hj, rfl, rfl, rfl, HG, HB4⟩ := hrel
        by_cases hjk : j < k
        · have hjk' : (j : Int) < (k : Int) := by omega
          have hjl : j < (rowsL l).length := by rw [HRL.out]; exact hjk
          have hc := cell_kept HB4.out (HX3.out j hjl)
          rw [Nat.zero_add] at hc
          obtain ⟨R, hR⟩ : ∃ R : ByteArray, R = ⟨((rowsL l).getD j []).toArray⟩ := ⟨_, rfl⟩
          rw [← hR] at hc
          have hRl : R.data.toList = (rowsL l).getD j [] := by rw [hR]
          have hRs : R.size ≤ 900 := by rw [ba_size hRl]; exact HLE.out _ (row_mem _ _ hjl)
          have hcl : ((difsL l).take j).count (-1) ≤ k := Nat.le_trans (List.count_le_length) (by rw [List.length_take]; omega)
          have HRl := Hid.mk hRl
          clear hR hRl
          generalize hcn : ((difsL l).take j).count (-1) = cn at *
          have HCC := Hid.mk hcn
          clear hcn
          have HDE := Hid.mk (show (difsL l).getD j 0 = dif ((rowsL l).getD j []) (bestL l) by
            unfold difsL; simp [List.getD, hjl])
          obtain ⟨wz, hwz⟩ : ∃ wz, wz = wr := ⟨_, rfl⟩
          rw [← hwz] at HG HB4 hc ⊢
          clear hwz
          go_wp2_with fail
          obtain ⟨m, hm, hm1, hm2, hm3⟩ : ∃ m : Nat, min (R.size : Int) (BT.size : Int) = (m : Int) ∧ m ≤ R.size ∧ m ≤ BT.size ∧ (m = R.size ∨ m = BT.size) := by
            rcases Nat.le_total R.size BT.size with h | h
            · exact ⟨R.size, by rw [Int.min_eq_left (by omega)], by omega, by omega, .inl rfl⟩
            · exact ⟨BT.size, by rw [Int.min_eq_right (by omega)], by omega, by omega, .inr rfl⟩
          rw [hm]
          have HM3 := Hid.mk hm3
          clear hm hm3
          go_loopw [16, 88] (fun at_ i wx => ∃ q : Nat, q ≤ m ∧ i = .int .i64 q ∧ at_ = .int .i64 (-1) ∧ Hid (R.data.toList.take q = BT.data.toList.take q) ∧ ∃ z, wx = wz.drewN z) (fun _ i _ => m - (intOf i).toNat)
          case atStart => exact ⟨0, Nat.zero_le _, rfl, rfl, Hid.mk (by simp), 0, rfl⟩
          case round =>
            obtain ⟨q, hq, rfl, rfl, HT, z, rfl⟩ := hrel
            by_cases hqm : q < m
            · have hqm' : (q : Int) < (m : Int) := by omega
              have hq1 : q < R.size := by omega
              have hq2 : q < BT.size := by omega
              have g1 := at_getD R q hq1
              have g2 := at_getD BT q hq2
              by_cases he : R.data.toList.getD q 0 = BT.data.toList.getD q 0
              · have hn1 : ((R[q].toNat : Int) != (BT[q].toNat : Int)) = false := by rw [g1, g2, he]; simp
                have HT2 := Hid.mk (take_more (by simpa using hq1) (by simpa using hq2) HT.out he)
                clear g1 g2 he
                go_wp2_with fail
                go_quiet (fail)
                go_wp2_with fail
                go_roundw
                case rel => exact ⟨q + 1, by omega, by go_num, rfl, HT2, _, rfl⟩
                case measure => simp [intOf]; omega
              · have hn1 : ((R[q].toNat : Int) != (BT[q].toNat : Int)) = true := by
                  rw [g1, g2]
                  simp only [bne_iff_ne]
                  intro hx
                  exact he (UInt8.toNat_inj.1 (by omega))
                have HDF := Hid.mk (dif_at (by simpa using hq1) (by simpa using hq2) HT.out he)
                clear g1 g2 he
                go_wp2_with fail
                go_quiet (fail)
                generalize hW5 : (wz.drewN z).drewN nq = W5
                have HG5 : Hid (W5.ownsRow w4.heap.size 3 1 u12 j (intC ((difsL l).take j))) := by rw [← hW5]; exact HG
                have HB5 : Hid (Below w4.heap.size w4 W5) := by rw [← hW5]; exact Hid.mk (bl2 HB4.out ⟨rfl, rfl, rfl, Nat.le_refl _, fun _ _ => rfl⟩)
                have hdj : (difsL l).getD j 0 = (q : Int) := by rw [HDE.out, ← HRl.out, ← HBl.out]; exact HDF.out
                have hjd : j < (difsL l).length := by rw [HDL.out]; exact hjk
                have hgd : (difsL l)[j] = (q : Int) := by rw [← hdj]; simp [List.getD, hjd]
                have HTA := Hid.mk (show intC ((difsL l).take j) ++ [Value.int .i64 (q : Int)] = intC ((difsL l).take (j + 1)) by
                  rw [List.take_succ_eq_append_getElem hjd, intC_append, hgd]; rfl)
                have HCQ := Hid.mk (show ((difsL l).take (j + 1)).count (-1) = cn by
                  rw [List.take_succ_eq_append_getElem hjd, List.count_append, HCC.out, hgd, List.count_singleton, if_neg (by simp), Nat.add_zero])
                clear hW5 hdj hjd hgd
                go_wp2_with (at_builtin; refine wpList_append_own _ rfl (.tmp 108) (.tmp 110) 39 rfl w4.heap.size 3 j0 (.int .i64 0) 1 8 Tryz.underlying39 hj0 hy0 hy1 hy2 rfl (by decide) _ _ _ rfl (HG5.out.alloc _) ⟨W5.heap.size, 0, none⟩ 1 1 [Value.int .i64 (q : Int)] rfl rfl (by intro q u hq; match q, hq with | 0, hq => (simp at hq; subst hq; simp [Addr.add])) (by intro u hu; simp at hu; subst hu; rfl) (by unfold maxLen; omega) (by omega) (by have := HB5.out.size; simp; omega) ?_; intro v6 w6 hown6 hgrow6 _)
                have hB6 : Below w4.heap.size w4 w6 := Below.grown (HB5.out.alloc HB5.out.size _) hgrow6 (by have := HB5.out.size; simp; omega) (fun q hq => (HG5.out.lt q hq).1)
                rw [HTA.out] at hown6
                clear hgrow6
                go_roundw
                case rel => exact ⟨j + 1, by omega, by go_num, rfl, by rw [HCQ.out], Hid.mk hown6, Hid.mk hB6⟩
                case measure => simp [intOf]; omega
            · have hqe : q = m := by omega
              subst hqe
              have hd1 : dif R.data.toList BT.data.toList = -1 := dif_none HT.out (by
                rcases HM3.out with h | h
                · left; simpa using h
                · right; simpa using h)
              have hRB : R = BT := by
                have e1 := (dif_neg HAp.out (row_mem _ _ hjl) HLe.out.1).1 (by rw [← HRl.out, ← HBl.out]; exact hd1)
                have e2 := HRl.out
                rw [e1, ← HBl.out] at e2
                exact ByteArray.ext (Array.toList_inj.mp e2)
              subst hRB
              generalize hW5 : wz.drewN z = W5
              have HG5 : Hid (W5.ownsRow w4.heap.size 3 1 u12 j (intC ((difsL l).take j))) := by rw [← hW5]; exact HG
              have HB5 : Hid (Below w4.heap.size w4 W5) := by rw [← hW5]; exact Hid.mk (bl2 HB4.out ⟨rfl, rfl, rfl, Nat.le_refl _, fun _ _ => rfl⟩)
              have hdj : (difsL l).getD j 0 = -1 := by rw [HDE.out, ← HRl.out, ← HBl.out]; exact hd1
              have hjd : j < (difsL l).length := by rw [HDL.out]; exact hjk
              have hgd : (difsL l)[j] = -1 := by rw [← hdj]; simp [List.getD, hjd]
              have HTA := Hid.mk (show intC ((difsL l).take j) ++ [Value.int .i64 (-1)] = intC ((difsL l).take (j + 1)) by
                rw [List.take_succ_eq_append_getElem hjd, intC_append, hgd]; rfl)
              have HCQ := Hid.mk (show ((((difsL l).take (j + 1)).count (-1) : Nat) : Int) = (cn : Int) + 1 by
                rw [List.take_succ_eq_append_getElem hjd, List.count_append, HCC.out, hgd, List.count_singleton_self]; simp)
              have heq : (R.toList == R.toList) = true := by simp
              clear hW5 hdj hjd hgd hd1
              go_wp2_with (at_builtin; refine wpList_append_own _ rfl (.tmp 108) (.tmp 110) 39 rfl w4.heap.size 3 j0 (.int .i64 0) 1 8 Tryz.underlying39 hj0 hy0 hy1 hy2 rfl (by decide) _ _ _ rfl (HG5.out.alloc _) ⟨W5.heap.size, 0, none⟩ 1 1 [Value.int .i64 (-1)] rfl rfl (by intro q u hq; match q, hq with | 0, hq => (simp at hq; subst hq; simp [Addr.add])) (by intro u hu; simp at hu; subst hu; rfl) (by unfold maxLen; omega) (by omega) (by have := HB5.out.size; simp; omega) ?_; intro v6 w6 hown6 hgrow6 _)
              have hB6 : Below w4.heap.size w4 w6 := Below.grown (HB5.out.alloc HB5.out.size _) hgrow6 (by have := HB5.out.size; simp; omega) (fun q hq => (HG5.out.lt q hq).1)
              rw [HTA.out] at hown6
              clear hgrow6
              go_roundw
              case rel => exact ⟨j + 1, by omega, by go_num, rfl, by rw [HCQ.out], Hid.mk hown6, Hid.mk hB6⟩
              case measure => simp [intOf]; omega
        · have e : j = k := by omega
          subst e
          have htl : (difsL l).take j = difsL l := List.take_of_length_le (by rw [HDL.out]; omega)
          have hown := HG.out
          rw [htl] at hown ⊢
          obtain ⟨gv, cv, rfl, -, -⟩ := owns_some hown h0
          have HNU := Hid.mk (nums_of hown)
          have hcn := HCN.out
          have HBF := Hid.mk (bl2 HB3.out HB4.out)
          generalize (difsL l).count (-1) = cn at *
          clear htl hown HG
          have hcn' : (cn : Int) ≤ 1 := by omega
          have heq : (BT.toList == BT.toList) = true := by simp
          go_wp2_with fail
          refine (HI.out _ _ _ HNU.out).mono ?_
          rintro e w7 ⟨rfl, hw7⟩
          subst hw7
          go_wp2_with fail
          refine (HQ.out _ _ _ _ _ (fun i hi => cell_kept HBF.out (HLO.out i hi)) HNU.out).mono ?_
          rintro e w8 ⟨rfl, hb8⟩
          have HB8 := Hid.mk (bl2 HBF.out hb8)
          clear hb8
          go_wp2_with fail
          go_ret
          exact ⟨rfl, bl2 HW1.out HB8.out⟩
end Bw
end Go.Proofs.YtemohjamcdkcmaaGreatDoor
namespace Go.Proofs.YtemohjamcdkcmaaGreatDoor
open Go.ChangeShapes Go.WideShapes Go.ChangeAt Go.RowKit
namespace wireSend
open Bw Bm
theorem walk (a : Option Addr) (n cap : Nat) (l : List FrV) (w : World) (hF : IsFrames w a n cap l) (hL : laidMet Tryz.prog Rows.wireSendRow.laid w) :
    Calls Tryz.prog 5 #[.slice a n cap] w fun e w' => e = .returned (.bool true) ∧ Below w.heap.size w w' := by
  have hS := sizes_of hL (by simp [Rows.wireSendRow])
  have hR := rules_of hL (by simp [Rows.wireSendRow])
  have hD := bruijn_of hL (by simp [Rows.wireSendRow])
  have hCF : CheckF := fun id lo fa re sz a len cap w h => checkFrame_any id lo fa re sz a len cap w h
  by_cases h6 : 6 < n
  · exact wsend_many a n cap l w hS hR hF h6
  · by_cases h0 : n = 0
    · subst h0
      exact wsend_none a cap w hS hR
    · by_cases hz : firE (l.map (·.f)) = 0
      · by_cases hO : onlyE (difsL l) (-1) = 0
        · exact wsend_one hCF a n cap l w hS hR hD hF (by omega) (by omega) hz hO
        · exact wsend_twice hCF a n cap l w hS hR hD hF (by omega) (by omega) hz hO
      · exact wsend_bad hCF a n cap l w hS hR hD hF (by omega) (by omega) hz
end wireSend
end Go.Proofs.YtemohjamcdkcmaaGreatDoor
