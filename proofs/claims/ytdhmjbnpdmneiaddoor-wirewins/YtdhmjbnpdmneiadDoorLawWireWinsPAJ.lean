/- Joined out of our texts: EachName, StrRow, StrIdx, OnlyStr, WFirst, WwinsM, EqualN, Wired, FrSame, SizesRow, RulesRow, WwinsWalk. -/
import Derived.Test.YtdhmjbnpdmneiadDoorLawWireWinsPAD
import Derived.Test.YtdhmjbnpdmneiadDoorLawWireWinsPAI
import Derived.Test.YtdhmjbnpdmneiadDoorLawWireWinsPAA
import Derived.Test.YtdhmjbnpdmneiadDoorLawWireWinsPAF
import Derived.Test.YtdhmjbnpdmneiadDoorLawWireWinsPAC
import Derived.Test.YtdhmjbnpdmneiadDoorRows
import Derived.Lib.LaidU8
import Derived.Test.YtdhmjbnpdmneiadDoorLawWireWinsPAE
import Derived.BigQuiet
import Derived.Lib.QuietBelow
/- What wire.each makes of frames with frame.Name: the rows of all, or the first error. -/
namespace Go.Proofs.YtdhmjbnpdmneiadDoor
open Go.ChangeShapes Go.WideShapes Go.ChangeAt Go.RowKit
namespace Bw
open Bm Cm
set_option maxHeartbeats 4000000 in
set_option maxRecDepth 100000 in
theorem eachName_any (a : Option Addr) (n cap : Nat) (l : List FrV) (w : World) (hS : SizesAt w) (hF : IsFrames w a n cap l) (hn : n ≤ 6) :
    Calls Tryd.prog 25 #[.slice a n cap, .func (.func 26) #[] #[]] w fun e w' =>
      (firE (l.map (·.f)) ≠ 0 → e = .returned (.tuple #[.slice none 0 0, .int .i64 (firE (l.map (·.f)))])) ∧
      (firE (l.map (·.f)) = 0 → ∃ v, e = .returned (.tuple #[v, .int .i64 0]) ∧ w'.ownsRow w.heap.size 9 1 v n (strC (l.map fun v => nameL v.f))) ∧ Below w.heap.size w w' := by
  obtain ⟨i0, hi, hz0, hz1, hz2⟩ := info_parts info_str
  have HF := Hid.mk hF
  have HS := Hid.mk hS

  clear hF hS
  go_enter Tryd.func25, Tryd.ntmps25
  go_wp2_with fail
  go_loopw [6, 13] (fun r i wr => ∃ k : Nat, k ≤ n ∧ i = .int .i64 k ∧ Hid (wr.ownsRow w.heap.size 9 1 r k (strC ((l.take k).map fun v => nameL v.f))) ∧ Hid (∀ v ∈ l.take k, frE v.f = 0) ∧ Hid (Below w.heap.size w wr)) (fun _ i _ => n - (intOf i).toNat)
  case atStart => exact ⟨0, Nat.zero_le _, rfl, Hid.mk (by simpa [strC] using World.ownsRow_nil _ _ _ _), Hid.mk (by simp), Hid.mk (Below.refl _ _)⟩
  case round =>
    obtain ⟨k, hk, rfl, HO, HZ, HB⟩ := hrel
    by_cases hlt : k < n
    · have hlt' : (k : Int) < (n : Int) := by omega
      have hkl : k < l.length := by rw [HF.out.len]; exact hlt
      cases a with
      | none => exact absurd (HF.out.none rfl) (by omega)
      | some x =>
        have cc := fun (j : Nat) (hj : j < 6) => cell_kept HB.out (HF.out.cell x rfl k hkl j hj)
        have hby := isBytes_below (HF.out.bytes k hkl) (show Below w.heap.size w wr from HB.out)
        have hfir := firE_take l k hkl HZ.out
        have hall := take_all hkl HZ.out
        have htk : strC ((l.take (k + 1)).map fun v => nameL v.f) = strC ((l.take k).map fun v => nameL v.f) ++ [.string ⟨(nameL l[k].f).toArray⟩] := by
          rw [List.take_succ_eq_append_getElem hkl, List.map_append, strC_append]; rfl
        generalize l[k] = v at *
        obtain ⟨f, fa, fl, fc⟩ := v
        have c0 := cc 0 (by omega)
        have c1 := cc 1 (by omega)
        have c2 := cc 2 (by omega)
        have c3 := cc 3 (by omega)
        have c4 := cc 4 (by omega)
        have c5 := cc 5 (by omega)
        rw [add_next] at c1 c2 c3 c4 c5
        rw [Nat.add_zero] at c0
        simp only [FrV.cells, List.getElem_cons_zero, List.getElem_cons_succ, Nat.reduceAdd] at c0 c1 c2 c3 c4 c5
        simp only at hby hfir hall htk
        have hbx := below_box wr f.id f.lo f.fa f.re f.sz fa fl fc
        have hby2 := isBytes_below hby hbx
        have hB2 := bl2 HB.out hbx
        have ha := frName_any f fa fl fc _ (HS.out.kept hB2) (Nat.le_trans hby2.2.1 hby2.2.2.1) hby2.1
        have HO2 := Hid.mk (HO.out.alloc (frameC f.id f.lo f.fa f.re f.sz fa fl fc))
        have HB2 := Hid.mk hB2
        have HFI := Hid.mk hfir
        have HAL := Hid.mk hall
        have HTK := Hid.mk htk
        clear cc hfir hall htk hby hby2 hbx hB2
        unfold frameC at ha HO2 HB2
        unfold frameV at ha
        by_cases hE : frE f = 0
        · have hba : nameA f = .tuple #[.string ⟨(nameL f).toArray⟩, .int .i64 0] := by unfold nameA; rw [if_pos hE]
          rw [hba] at ha
          have HA := Hid.mk ha
          have HE := Hid.mk hE
          generalize ByteArray.mk (nameL f).toArray = X at *
          clear ha hE hba
          go_wp2_with fail
          refine HA.out.mono ?_
          rintro e w1 ⟨rfl, hb1⟩
          have HO1 := Hid.mk (ownsRow_below HO2.out hb1)
          have HB1 := Hid.mk (bl2 HB2.out hb1)
          clear hb1 HO2 HB2 HO HB HA
          go_wp2_with (at_builtin; refine wpList_append_own _ rfl (.tmp 26) (.tmp 28) 27 rfl w.heap.size 9 i0 (.string ⟨#[]⟩) 1 16 Tryd.underlying27 hi hz0 hz1 hz2 rfl (by decide) _ _ _ rfl (HO1.out.alloc _) ⟨w1.heap.size, 0, none⟩ 1 1 [Value.string X] rfl rfl (by intro q u hq; match q, hq with | 0, hq => (simp at hq; subst hq; simp [Addr.add])) (by intro u hu; simp at hu; subst hu; rfl) (by unfold maxLen; omega) (by omega) (by have := HB1.out.size; simp; omega) ?_; intro v3 w3 hown3 hgrow3 _)
          have hB3 : Below w.heap.size w w3 := Below.grown (HB1.out.alloc HB1.out.size _) hgrow3 (by have := HB1.out.size; simp; omega) (fun q hq => (HO1.out.lt q hq).1)
          rw [← HTK.out] at hown3
          clear hgrow3
          go_roundw
          case rel => exact ⟨k + 1, by omega, by go_num, Hid.mk hown3, Hid.mk (HAL.out HE.out), Hid.mk hB3⟩
          case measure => simp [intOf]; omega
        · have hba : nameA f = .tuple #[.string ⟨#[]⟩, .int .i64 (frE f)] := by unfold nameA; rw [if_neg hE]
          rw [hba] at ha
          have HA := Hid.mk ha
          have HE := Hid.mk (HFI.out hE)
          have HN := Hid.mk hE
          have hne : (frE f != 0) = true := by simpa using hE
          clear ha hE hba
          generalize frE f = ce at *
          go_wp2_with fail
          refine HA.out.mono ?_
          rintro e w1 ⟨rfl, hb1⟩
          have HB1 := Hid.mk (bl2 HB2.out hb1)
          clear hb1 HO2 HB2 HO HB HA
          go_wp2_with fail
          go_ret2
          exact ⟨fun _ => by rw [HE.out]; rfl, fun h => absurd (HE.out.symm.trans h) HN.out, HB1.out⟩
    · have e : k = n := by omega
      subst e
      have hz := HZ.out
      rw [List.take_of_length_le (by have := HF.out.len; omega)] at hz
      have hfz : firE (l.map (·.f)) = 0 := (firE_zero _).2 (fun f hf => by
        obtain ⟨v, hv, rfl⟩ := List.mem_map.1 hf
        exact hz v hv)
      have hown := HO.out
      rw [List.take_of_length_le (by have := HF.out.len; omega)] at hown
      have HOW := Hid.mk hown
      have HFZ := Hid.mk hfz
      clear hown hfz hz
      go_wp2_with fail
      go_ret2
      exact ⟨fun h => absurd HFZ.out h, fun _ => ⟨_, rfl, HOW.out⟩, HB.out⟩
end Bw
end Go.Proofs.YtdhmjbnpdmneiadDoor

/- What slices.Min answers of texts. -/
namespace Go.Proofs.YtdhmjbnpdmneiadDoor
open Go.ChangeShapes Go.WideShapes Go.ChangeAt Go.RowKit
namespace Bw
open Bm
theorem min2_any (a b : List UInt8) (w : World) : (Builtin.min_ #[9, 9] 9 #[.string ⟨a.toArray⟩, .string ⟨b.toArray⟩]).run Tryd.prog w = .ok (.string ⟨(minB a b).toArray⟩) w := by
  have key : (if Op.bytesLess b a = true then ByteArray.mk b.toArray else ByteArray.mk a.toArray) = ⟨(minB a b).toArray⟩ := by
    unfold minB; split <;> rfl
  rw [← key]
  simp [Builtin.min_, Builtin.min2, Op.stringOp, ByteArray.toList_eq, asBool]
  by_cases h : Op.bytesLess b a = true
  · have h2 := less_not h
    have h3 : a ≠ b := fun e => less_ne h e.symm
    simp [h, h2, h3]
  · have h1 : Op.bytesLess b a = false := by simpa using h
    by_cases h2 : Op.bytesLess a b = true
    · simp [h1, h2]
    · have h3 : a = b := less_tot a b (by simpa using h2) h1
      subst h3; simp
set_option maxHeartbeats 1000000 in
theorem minS_any (g n c : Nat) (rows : List (List UInt8)) (w : World) (hn : rows.length = n) (h0 : 0 < n) (hm : n ≤ 1000) (hx : StrsAt w g 0 rows) :
    Calls Tryd.prog 11 #[.slice (some ⟨g, 0, none⟩) n c] w fun e w' => e = .returned (.string ⟨(minL rows).toArray⟩) ∧ w' = w := by
  have HX := Hid.mk hx
  have HN := Hid.mk hn
  have hc0 := hx 0 (by omega)
  have h0' : (1 : Int) ≤ (n : Int) := by omega
  simp only [Nat.zero_add] at hc0
  clear hx hn
  go_enter Tryd.func11, Tryd.ntmps11
  go_wp2_with fail
  go_loopw [3, 4] (fun m i wr => ∃ j : Nat, 1 ≤ j ∧ j ≤ n ∧ i = .int .i64 j ∧ m = .string ⟨(minJ rows (j - 1)).toArray⟩ ∧ wr = w) (fun _ i _ => n - (intOf i).toNat)
  case atStart => exact ⟨1, by omega, by omega, rfl, by simp [minJ], rfl⟩
  case round =>
    obtain ⟨j, hj1, hj, rfl, rfl, hwr⟩ := hrel
    subst hwr
    by_cases hlt : j < n
    · have hc := HX.out j (by rw [HN.out]; exact hlt)
      have hlt' : (j : Int) < (n : Int) := by omega
      simp only [Nat.zero_add] at hc
      have hjl : j - 1 + 1 = j := by omega
      have hmj : minJ rows j = minB (minJ rows (j - 1)) (rows.getD j []) := by rw [← hjl, minJ, hjl]
      have HMIN := Hid.mk (min2_any (minJ rows (j - 1)) (rows.getD j []) wr)
      rw [← hmj] at HMIN
      have HMJ := Hid.mk (show Value.string ⟨(minJ rows j).toArray⟩ = .string ⟨(minJ rows (j + 1 - 1)).toArray⟩ from rfl)
      generalize minJ rows j = M1 at *
      generalize ByteArray.mk (minJ rows (j - 1)).toArray = M0 at *
      generalize ByteArray.mk (rows.getD j []).toArray = R1 at *
      have hmin := HMIN.out
      clear hmj hjl
      go_wp2_with fail
      go_roundw
      case rel => exact ⟨j + 1, by omega, by omega, by go_num, HMJ.out, by first | rfl | trivial⟩
      case measure => simp [intOf]; omega
    · have e : j = n := by omega
      subst e
      have HL := Hid.mk (show minJ rows (j - 1) = minL rows by unfold minL; rw [HN.out])
      go_wp2_with fail
      go_ret
      exact ⟨by rw [← HL.out]; rfl, rfl⟩
end Bw
end Go.Proofs.YtdhmjbnpdmneiadDoor

/- What slices.Index and slices.Contains answer of texts. -/
namespace Go.Proofs.YtdhmjbnpdmneiadDoor
open Go.ChangeShapes Go.WideShapes Go.ChangeAt Go.RowKit
namespace Bw
open Bm
set_option maxHeartbeats 1000000 in
theorem indexS (g off n c : Nat) (xs : List (List UInt8)) (v : (List UInt8)) (w : World) (hn : xs.length = n) (hm : n ≤ 1000) (hx : StrsAt w g off xs) :
    Calls Tryd.prog 12 #[.slice (some ⟨g, off, none⟩) n c, .string ⟨v.toArray⟩] w fun e w' => e = .returned (.int .i64 (idxG xs v)) ∧ w' = w := by
  have HX := Hid.mk hx
  have HN := Hid.mk hn
  obtain ⟨V, hV⟩ : ∃ V : ByteArray, V = ⟨v.toArray⟩ := ⟨_, rfl⟩
  rw [← hV]
  have HVV := Hid.mk hV
  clear hx hn hV
  go_enter Tryd.func12, Tryd.ntmps12
  go_wp2_with fail
  go_loopw [8] (fun i wr => ∃ j : Nat, j ≤ n ∧ i = .int .i64 j ∧ Hid (v ∉ xs.take j) ∧ wr = w) (fun i _ => n - (intOf i).toNat)
  case atStart => exact ⟨0, Nat.zero_le _, rfl, Hid.mk (by simp), rfl⟩
  case round =>
    obtain ⟨j, hj, rfl, HV, hwr⟩ := hrel
    subst hwr
    by_cases hlt : j < n
    · have hc := HX.out j (by rw [HN.out]; exact hlt)
      have hlt' : (j : Int) < (n : Int) := by omega
      have hjl : j < xs.length := by rw [HN.out]; exact hlt
      by_cases he : v = xs.getD j []
      · have hb : (V.toList == (ByteArray.mk (xs.getD j []).toArray).toList) = true := by rw [HVV.out, txt_eq, ← he]; simp
        have HRES := Hid.mk (idxG_hit xs v [] j hjl HV.out he)
        generalize ByteArray.mk (xs.getD j []).toArray = y at *
        clear hjl he
        go_wp2_with fail
        go_ret
        exact ⟨by rw [HRES.out]; rfl, rfl⟩
      · have hb : (V.toList == (ByteArray.mk (xs.getD j []).toArray).toList) = false := by rw [HVV.out, txt_eq]; simpa using he
        have HNX := Hid.mk (idxG_next xs v [] j hjl HV.out he)
        generalize ByteArray.mk (xs.getD j []).toArray = y at *
        clear hjl he
        go_wp2_with fail
        go_roundw
        case rel => exact ⟨j + 1, by omega, by go_num, HNX, by first | rfl | trivial⟩
        case measure => simp [intOf]; omega
    · have e : j = n := by omega
      subst e
      have HRES := Hid.mk (idxG_none xs v (by
        have := HV.out
        rwa [← HN.out, List.take_length] at this))
      go_wp2_with fail
      go_ret
      exact ⟨by rw [HRES.out]; rfl, rfl⟩
set_option maxHeartbeats 1000000 in
theorem containsS (g off n c : Nat) (xs : List (List UInt8)) (v : (List UInt8)) (w : World) (hn : xs.length = n) (hm : n ≤ 1000) (hx : StrsAt w g off xs) :
    Calls Tryd.prog 55 #[.slice (some ⟨g, off, none⟩) n c, .string ⟨v.toArray⟩] w fun e w' => e = .returned (.bool (decide (v ∈ xs))) ∧ w' = w := by
  have h1 := indexS g off n c xs v w hn hm hx
  have he : decide (0 ≤ idxG xs v) = decide (v ∈ xs) := by rw [decide_eq_decide]; exact idxG_pos xs v
  have HE := Hid.mk he
  generalize idxG xs v = q at *
  clear he hn hx
  go_enter Tryd.func55, Tryd.ntmps55
  go_wp2_with fail
  refine h1.mono ?_
  rintro e w1 ⟨rfl, hw1⟩
  subst hw1
  go_wp2_with fail
  go_ret
  exact ⟨by rw [← HE.out]; rfl, rfl⟩
end Bw
end Go.Proofs.YtdhmjbnpdmneiadDoor

/- Where something stands in a list, if it stands there once: wire.only of texts. -/
namespace Go.Proofs.YtdhmjbnpdmneiadDoor
open Go.ChangeShapes Go.WideShapes Go.ChangeAt Go.RowKit
namespace Bw
open Bm

theorem sizeOfT (W : World) : (sizeOf 9).run Tryd.prog W = .ok 1 W := by
  have h : (Tryd.prog.info? 9).map (·.size) = some 1 := by kernel_rfl
  cases hi : Tryd.prog.info? 9 with
  | none => rw [hi] at h; cases h
  | some i =>
    rw [hi] at h
    have h1 : i.size = 1 := by simpa using h
    simp [sizeOf, typeInfo, hi, h1]
theorem sliceT (g n c l : Nat) (xs : List (List UInt8)) (w : World) (hn : xs.length = n) (hl : l ≤ n) (hnc : n ≤ c) (hx : StrsAt w g 0 xs) :
    ∃ off, (∀ W, (Instr.slice 27 (.slice (some ⟨g, 0, none⟩) n c) (some (.int .i64 (l : Int))) none none).run Tryd.prog W = .ok (.slice (some ⟨g, off, none⟩) (n - l) (c - l)) W) ∧ StrsAt w g off (xs.drop l) := by
  have key : ∀ W, (Instr.slice 27 (.slice (some ⟨g, 0, none⟩) n c) (some (.int .i64 (l : Int))) none none).run Tryd.prog W = .ok (.slice (some ⟨g, if c = l then 0 else l, none⟩) (n - l) (c - l)) W := by
    intro W
    rw [run_slice_l W 27 (some ⟨g, 0, none⟩) n c (by kernel_rfl) .i64 (l : Int) (by omega) (by omega)]
    have e : Tryd.prog.elem 27 = 9 := by kernel_rfl
    rw [e, sizeOfT W]
    simp only [Result.andThen_ok, sliced, Int.toNat_natCast, Nat.mul_one, Option.map_some]
    by_cases h : c = l
    · rw [if_pos h, if_pos h]
    · rw [if_neg h, if_neg h]; simp [Addr.add]; exact fun h => h.symm
  refine ⟨_, key, ?_⟩
  intro i hi
  rw [List.length_drop] at hi
  by_cases h : c = l
  · omega
  · rw [if_neg h]
    have := hx (l + i) (by omega)
    rw [Nat.zero_add] at this
    rw [this]
    simp [List.getD]
set_option maxHeartbeats 2000000 in
set_option maxRecDepth 100000 in
theorem onlyT_any (g n c : Nat) (xs : List (List UInt8)) (v : (List UInt8)) (w : World) (hn : xs.length = n) (hm : n ≤ 6) (hnc : n ≤ c) (hx : StrsAt w g 0 xs) :
    Calls Tryd.prog 27 #[.slice (some ⟨g, 0, none⟩) n c, .string ⟨v.toArray⟩] w fun e w' => e = .returned (.tuple #[.int .i64 (onlyN xs v), .int .i64 (onlyE xs v)]) ∧ w' = w := by
  have HI := Hid.mk (indexS g 0 n c xs v w hn (by omega) hx)
  have hge := idxG_ge xs v
  rw [hn] at hge
  by_cases h0 : idxG xs v < 0
  · have e1 : onlyE xs v = 8 := by unfold onlyE; rw [if_pos h0]
    have e2 : onlyN xs v = 0 := by unfold onlyN; rw [e1]; rfl
    rw [e1, e2]
    generalize idxG xs v = q at *
    clear e1 e2 hx hn hge
    go_enter Tryd.func27, Tryd.ntmps27
    go_wp2_with fail
    refine HI.out.mono ?_
    rintro e w1 ⟨rfl, hw⟩
    subst hw
    go_wp2_with fail
    go_ret2
    exact ⟨rfl, rfl⟩
  · obtain ⟨l, hl⟩ : ∃ l : Nat, idxG xs v = l := ⟨(idxG xs v).toNat, by omega⟩
    obtain ⟨off, hsl, hx2⟩ := sliceT g n c (l + 1) xs w hn (by omega) hnc hx
    have hc := containsS g off (n - (l + 1)) (c - (l + 1)) (xs.drop (l + 1)) v w (by rw [List.length_drop, hn]) (by omega) hx2
    have e1 : onlyE xs v = if v ∈ xs.drop (l + 1) then 9 else 0 := by
      unfold onlyE
      rw [if_neg h0, hl, Int.toNat_natCast]
      try (by_cases h : v ∈ xs.drop (l + 1) <;> simp [h])
    have e2 : onlyN xs v = if v ∈ xs.drop (l + 1) then 0 else (l : Int) := by
      unfold onlyN
      rw [e1, hl]
      by_cases h : v ∈ xs.drop (l + 1)
      · rw [if_pos h, if_pos h, if_neg (by omega)]
      · rw [if_neg h, if_neg h, if_pos rfl]
    rw [hl] at HI hge
    rw [e1, e2]
    have hsl' : ∀ W, (Instr.slice 27 (.slice (some ⟨g, 0, none⟩) n c) (some (.int .i64 ((l : Int) + 1))) none none).run Tryd.prog W = .ok (.slice (some ⟨g, off, none⟩) (n - (l + 1)) (c - (l + 1))) W := by
      intro W
      have := hsl W
      rw [show ((l + 1 : Nat) : Int) = (l : Int) + 1 by omega] at this
      exact this
    generalize n - (l + 1) = n2 at *
    generalize c - (l + 1) = c2 at *
    clear hsl hl h0 hx hx2 e1 e2
    by_cases h : v ∈ xs.drop (l + 1)
    · rw [if_pos h, if_pos h]
      have hd : decide (v ∈ xs.drop (l + 1)) = true := by simpa using h
      rw [hd] at hc
      have HC := Hid.mk hc
      clear hc h hd hn
      go_enter Tryd.func27, Tryd.ntmps27
      go_wp2_with fail
      refine HI.out.mono ?_
      rintro e w1 ⟨rfl, hw⟩
      subst hw
      go_wp2_with fail
      refine HC.out.mono ?_
      rintro e w2 ⟨rfl, hw2⟩
      subst hw2
      go_wp2_with fail
      go_ret2
      exact ⟨rfl, rfl⟩
    · rw [if_neg h, if_neg h]
      have hd : decide (v ∈ xs.drop (l + 1)) = false := by simpa using h
      rw [hd] at hc
      have HC := Hid.mk hc
      clear hc h hd hn
      go_enter Tryd.func27, Tryd.ntmps27
      go_wp2_with fail
      refine HI.out.mono ?_
      rintro e w1 ⟨rfl, hw⟩
      subst hw
      go_wp2_with fail
      refine HC.out.mono ?_
      rintro e w2 ⟨rfl, hw2⟩
      subst hw2
      go_wp2_with fail
      go_ret2
      exact ⟨rfl, rfl⟩
end Bw
end Go.Proofs.YtdhmjbnpdmneiadDoor

/- What wire.First answers of any frames. -/
namespace Go.Proofs.YtdhmjbnpdmneiadDoor
open Go.ChangeShapes Go.WideShapes Go.ChangeAt Go.RowKit
namespace Bw
open Bm Cm
/-- the names of frames -/
def namesL (l : List FrV) : List (List UInt8) := l.map fun v => nameL v.f
/-- the error that First tells -/
def firstE (l : List FrV) : Int := if 6 < l.length then 2 else if firE (l.map (·.f)) ≠ 0 then firE (l.map (·.f)) else if l.length = 0 then 8 else onlyE (namesL l) (minL (namesL l))
set_option maxHeartbeats 2000000 in
theorem first_many (a : Option Addr) (n cap : Nat) (w : World) (h : 6 < n) :
    Calls Tryd.prog 7 #[.slice a n cap] w fun e w' => e = .returned (.tuple #[.int .i64 0, .int .i64 2]) ∧ w' = w := by
  have h2 : (6 : Int) < (n : Int) := by omega
  go_enter Tryd.func7, Tryd.ntmps7
  go_wp2_with fail
  go_ret2
  exact ⟨rfl, rfl⟩
set_option maxHeartbeats 2000000 in
theorem first_bad (a : Option Addr) (n cap : Nat) (l : List FrV) (w : World) (hS : SizesAt w) (hF : IsFrames w a n cap l) (h6 : n ≤ 6) (hz : firE (l.map (·.f)) ≠ 0) :
    Calls Tryd.prog 7 #[.slice a n cap] w fun e w' => e = .returned (.tuple #[.int .i64 0, .int .i64 (firE (l.map (·.f)))]) ∧ Below w.heap.size w w' := by
  have ha := (eachName_any a n cap l w hS hF h6).mono (fun _ _ h => And.intro (h.1 hz) h.2.2)
  have HE := Hid.mk ha
  have hne : (firE (l.map (·.f)) != 0) = true := by simpa using hz
  have h6' : (n : Int) ≤ 6 := by omega
  generalize firE (l.map (·.f)) = ce at *
  clear ha hS hF hz
  go_enter Tryd.func7, Tryd.ntmps7
  go_wp2_with fail
  refine HE.out.mono ?_
  rintro e w1 ⟨rfl, hb1⟩
  go_wp2_with fail
  go_ret2
  exact ⟨rfl, hb1⟩
set_option maxHeartbeats 2000000 in
theorem first_none (a : Option Addr) (n cap : Nat) (l : List FrV) (w : World) (hS : SizesAt w) (hF : IsFrames w a n cap l) (h0 : n = 0) :
    Calls Tryd.prog 7 #[.slice a n cap] w fun e w' => e = .returned (.tuple #[.int .i64 0, .int .i64 8]) ∧ Below w.heap.size w w' := by
  subst h0
  have hz : firE (l.map (·.f)) = 0 := by
    have : l = [] := List.eq_nil_of_length_eq_zero hF.len
    subst this; rfl
  have ha := (eachName_any a 0 cap l w hS hF (by omega)).mono (fun _ _ h => And.intro (h.2.1 hz) h.2.2)
  have HE := Hid.mk ha
  clear ha hS hF hz
  go_enter Tryd.func7, Tryd.ntmps7
  go_wp2_with fail
  refine HE.out.mono ?_
  rintro e w1 ⟨⟨rv, rfl, hown⟩, hb1⟩
  obtain ⟨ra, rc, rfl⟩ := owns_slice hown
  clear hown
  go_wp2_with fail
  go_ret2
  exact ⟨rfl, hb1⟩
theorem owns_room {w : World} {base : Nat} {e : TypeId} {size : Nat} {v : Value} {n : Nat} {xs : List Value} (h : w.ownsRow base e size v n xs) (h0 : 0 < n) : ∃ g cap, v = .slice (some ⟨g, 0, none⟩) n cap ∧ n ≤ cap := by
  rcases h.2 with ⟨rfl, rfl⟩ | ⟨g, cap, cur, rfl, _, _, hc, -⟩
  · omega
  · exact ⟨_, _, rfl, hc⟩
set_option maxHeartbeats 4000000 in
theorem first_ok (a : Option Addr) (n cap : Nat) (l : List FrV) (w : World) (hS : SizesAt w) (hF : IsFrames w a n cap l) (h0 : 0 < n) (h6 : n ≤ 6) (hz : firE (l.map (·.f)) = 0) :
    Calls Tryd.prog 7 #[.slice a n cap] w fun e w' => e = .returned (.tuple #[.int .i64 (onlyN (namesL l) (minL (namesL l))), .int .i64 (onlyE (namesL l) (minL (namesL l)))]) ∧ Below w.heap.size w w' := by
  have hrl : (namesL l).length = n := by rw [namesL, List.length_map, hF.len]
  have ha := (eachName_any a n cap l w hS hF h6).mono (fun _ _ h => And.intro (h.2.1 hz) h.2.2)
  have hm := fun g c W hX => minS_any g n c (namesL l) W hrl h0 (by omega) hX
  have ho := fun g c W hc hX => onlyT_any g n c (namesL l) (minL (namesL l)) W hrl h6 hc hX
  have HRO := Hid.mk (show strC (l.map fun v => nameL v.f) = strC (namesL l) from rfl)
  generalize onlyN (namesL l) (minL (namesL l)) = oN at *
  generalize onlyE (namesL l) (minL (namesL l)) = oE at *
  generalize ByteArray.mk (minL (namesL l)).toArray = BT at *
  have h0' : ((n : Int) == 0) = false := by rw [beq_eq_false_iff_ne]; omega
  have h6' : (n : Int) ≤ 6 := by omega
  have HE := Hid.mk ha
  have HM := Hid.mk hm
  have HO := Hid.mk ho
  clear ha hm ho hS hF hz hrl
  go_enter Tryd.func7, Tryd.ntmps7
  go_wp2_with fail
  refine HE.out.mono ?_
  rintro e w1 ⟨⟨rv, rfl, hown⟩, hb1⟩
  rw [HRO.out] at hown
  obtain ⟨gr, cr, rfl, hnc⟩ := owns_room hown h0
  have HX := Hid.mk (strs_of hown)
  have HB1 := Hid.mk hb1
  have HNC := Hid.mk hnc
  clear hown hb1 hnc
  go_wp2_with fail
  refine (HM.out _ _ _ HX.out).mono ?_
  rintro e w2 ⟨rfl, hw2⟩
  subst hw2
  go_wp2_with fail
  refine (HO.out _ _ _ HNC.out HX.out).mono ?_
  rintro e w3 ⟨rfl, hw3⟩
  subst hw3
  go_wp2_with fail
  go_ret2
  exact ⟨rfl, HB1.out⟩
/-- First of any frames -/
theorem first_any (a : Option Addr) (n cap : Nat) (l : List FrV) (w : World) (hS : SizesAt w) (hF : IsFrames w a n cap l) :
    Calls Tryd.prog 7 #[.slice a n cap] w fun e w' => e = .returned (.tuple #[.int .i64 (if firstE l = 0 then idxG (namesL l) (minL (namesL l)) else 0), .int .i64 (firstE l)]) ∧ Below w.heap.size w w' := by
  have hl := hF.len
  by_cases h6 : 6 < n
  · have e1 : firstE l = 2 := by unfold firstE; rw [if_pos (by omega)]
    rw [e1]
    refine (first_many a n cap w h6).mono ?_
    rintro e w1 ⟨rfl, rfl⟩
    exact ⟨rfl, Below.refl _ _⟩
  · by_cases hz : firE (l.map (·.f)) = 0
    · by_cases h0 : n = 0
      · have e1 : firstE l = 8 := by unfold firstE; rw [if_neg (by omega), if_neg (fun h => h hz), if_pos (by omega)]
        rw [e1]
        exact first_none a n cap l w hS hF h0
      · have e1 : firstE l = onlyE (namesL l) (minL (namesL l)) := by unfold firstE; rw [if_neg (by omega), if_neg (fun h => h hz), if_neg (by omega)]
        rw [e1]
        exact first_ok a n cap l w hS hF (by omega) (by omega) hz
    · have e1 : firstE l = firE (l.map (·.f)) := by unfold firstE; rw [if_neg (by omega), if_pos hz]
      rw [e1, if_neg hz]
      exact first_bad a n cap l w hS hF (by omega) hz
end Bw
end Go.Proofs.YtdhmjbnpdmneiadDoor

/- Where First tells one, Send tells the same; who went through is one of the frames: plain facts. -/
namespace Go.Proofs.YtdhmjbnpdmneiadDoor
namespace Bw
open Bm Cm
theorem send_parts {l : List FrV} (h : sendE l = 0) : l.length ≤ 6 ∧ l.length ≠ 0 ∧ firE (l.map (·.f)) = 0 ∧ onlyE (difsL l) (-1) = 0 := by
  unfold sendE at h
  by_cases h6 : 6 < l.length
  · rw [if_pos h6] at h; exact absurd h (by decide)
  · rw [if_neg h6] at h
    by_cases h0 : l.length = 0
    · rw [if_pos h0] at h; exact absurd h (by decide)
    · rw [if_neg h0] at h
      by_cases hz : firE (l.map (·.f)) = 0
      · rw [if_neg (fun x => x hz)] at h
        exact ⟨by omega, h0, hz, h⟩
      · rw [if_pos hz] at h; exact absurd h hz
theorem first_parts {l : List FrV} (h : firstE l = 0) : l.length ≤ 6 ∧ l.length ≠ 0 ∧ firE (l.map (·.f)) = 0 ∧ onlyE (namesL l) (minL (namesL l)) = 0 := by
  unfold firstE at h
  by_cases h6 : 6 < l.length
  · rw [if_pos h6] at h; exact absurd h (by decide)
  · rw [if_neg h6] at h
    by_cases hz : firE (l.map (·.f)) = 0
    · rw [if_neg (fun x => x hz)] at h
      by_cases h0 : l.length = 0
      · rw [if_pos h0] at h; exact absurd h (by decide)
      · rw [if_neg h0] at h
        exact ⟨by omega, h0, hz, h⟩
    · rw [if_pos hz] at h; exact absurd h hz
theorem rowsL_map (l : List FrV) : rowsL l = (l.map (·.f)).map bitsL := by unfold rowsL; rw [List.map_map]; rfl
theorem namesL_map (l : List FrV) : namesL l = (l.map (·.f)).map nameL := by unfold namesL; rw [List.map_map]; rfl
theorem difs_only {l : List FrV} (h0 : l.length ≠ 0) (hz : firE (l.map (·.f)) = 0) : onlyE (difsL l) (-1) = onlyE (rowsL l) (bestL l) ∧ idxG (difsL l) (-1) = idxG (rowsL l) (bestL l) := by
  obtain ⟨_, _, hA, hL⟩ := rows_facts l hz h0
  refine ⟨?_, dif_idx hA hL.1⟩
  have hd := dif_count hA hL.1
  rw [onlyE_rows hL.1, ← hd]
  unfold difsL
  exact onlyE_mem (dif_mem hL.1)
theorem first_send {l : List FrV} (h : firstE l = 0) : sendE l = 0 ∧ idxG (difsL l) (-1) = idxG (namesL l) (minL (namesL l)) := by
  obtain ⟨h6, h0, hz, ho⟩ := first_parts h
  obtain ⟨d1, d2⟩ := difs_only h0 hz
  have hne : l.map (·.f) ≠ [] := by
    intro e
    have := congrArg List.length e
    simp at this
    exact h0 (by rw [this]; rfl)
  have hm : minL (namesL l) ∈ namesL l := by
    rw [namesL_map]
    exact minL_mem (by simpa using hne)
  have hcnt : ¬ 1 < (namesL l).count (minL (namesL l)) := by
    intro hx
    rw [onlyE_rows hm, if_pos hx] at ho
    exact absurd ho (by decide)
  rw [namesL_map] at hcnt
  obtain ⟨f1, f2⟩ := first_wins (l.map (·.f)) hne hcnt
  rw [← rowsL_map, ← namesL_map] at f2
  rw [← rowsL_map] at f1
  refine ⟨?_, ?_⟩
  · unfold sendE
    rw [if_neg (by omega), if_neg h0, if_neg (fun x => x hz), d1]
    exact f1
  · rw [d2]; exact f2
theorem send_who {l : List FrV} (h : sendE l = 0) : ∃ i : Nat, ∃ hi : i < l.length, idxG (difsL l) (-1) = i ∧ bitsL l[i].f = bestL l ∧ frE l[i].f = 0 := by
  obtain ⟨h6, h0, hz, ho⟩ := send_parts h
  obtain ⟨_, d2⟩ := difs_only h0 hz
  obtain ⟨_, _, hA, hL⟩ := rows_facts l hz h0
  obtain ⟨a, b, hab, ha⟩ := firstG hL.1
  have hi : a.length < (rowsL l).length := by rw [hab]; simp
  have hil : a.length < l.length := by simpa [rowsL] using hi
  refine ⟨a.length, hil, ?_, ?_, ?_⟩
  · rw [d2, hab, idxG_at a b _ ha]
  · have e1 : (rowsL l)[a.length]'hi = bitsL (l[a.length]'hil).f := by simp [rowsL]
    rw [← e1]
    have e2 : (rowsL l)[a.length]? = some (bestL l) := by rw [hab]; simp
    rw [List.getElem?_eq_getElem hi] at e2
    exact Option.some.inj e2
  · exact (firE_zero _).1 hz _ (List.mem_map.2 ⟨_, List.getElem_mem hil, rfl⟩)
end Bw
end Go.Proofs.YtdhmjbnpdmneiadDoor

/- What slices.Equal answers of two slices that hold the same numbers: true. -/
namespace Go.Proofs.YtdhmjbnpdmneiadDoor
open Go.ChangeShapes Go.WideShapes Go.ChangeAt Go.RowKit
namespace Bw
open Bm
set_option maxHeartbeats 1000000 in
theorem equalN_true (w : World) (g h n c d : Nat) (xs : List Int) (hx : xs.length = n) (hn : n ≤ 1000) (ha : NumsAt w g 0 xs) (hb : NumsAt w h 0 xs) :
    Calls Tryd.prog 28 #[.slice (some ⟨g, 0, none⟩) n c, .slice (some ⟨h, 0, none⟩) n d] w fun e w' => e = .returned (.bool true) ∧ Below w.heap.size w w' := by
  have HA := Hid.mk ha
  have HB := Hid.mk hb
  have HX := Hid.mk hx
  clear ha hb hx
  go_enter Tryd.func28, Tryd.ntmps28
  go_wp2
  go_loopw [13] (fun i w' => ∃ k : Nat, k ≤ n ∧ i = .int .i64 k ∧ ∃ m, w' = w.drewN m) (fun i _ => n - (intOf i).toNat)
  case atStart => exact ⟨0, Nat.zero_le _, rfl, 0, rfl⟩
  case round =>
    obtain ⟨k, hk, rfl, m, rfl⟩ := hrel
    by_cases hlt : k < n
    · have g1 := HA.out k (by rw [HX.out]; exact hlt)
      have g2 := HB.out k (by rw [HX.out]; exact hlt)
      simp only [Nat.zero_add] at g1 g2
      generalize xs.getD k 0 = y at *
      have hlt' : (k : Int) < (n : Int) := by omega
      go_wp2
      go_quiet (fail)
      go_wp2
      go_roundw
      case rel => exact ⟨k + 1, by omega, by go_num, _, rfl⟩
      case measure => simp [intOf]; omega
    · go_wp2
      go_ret
      exact ⟨rfl, ⟨rfl, rfl, rfl, Nat.le_refl _, fun _ _ => rfl⟩⟩
end Bw
end Go.Proofs.YtdhmjbnpdmneiadDoor

/- The closed fact that each law of the wire asks for: two frames at a time. -/
namespace Go.Proofs.YtdhmjbnpdmneiadDoor
open Go.ChangeShapes Go.WideShapes Go.ChangeAt Go.RowKit
namespace Bw
open Bm Cm
def w6 : FrV := ⟨⟨6, false, false, false, 0, []⟩, none, 0, 0⟩
def w5 : FrV := ⟨⟨5, false, false, false, 0, []⟩, none, 0, 0⟩
theorem w65_send : sendE [w6, w5] = 0 := by decide +kernel
theorem w65_best : bestL [w6, w5] = bitsL w5.f := by decide +kernel
theorem w65_difs : difsL [w6, w5] = [11, -1] := by decide +kernel
theorem w5_ok : frE w5.f = 0 := by decide +kernel
def w65C : Obj := .cells #[.int .i64 6, .bool false, .bool false, .bool false, .int .i64 0, .slice none 0 0, .int .i64 5, .bool false, .bool false, .bool false, .int .i64 0, .slice none 0 0] 30
theorem w65_frames (w : World) : IsFrames (w.alloc w65C) (some ⟨w.heap.size, 0, none⟩) 2 2 [w6, w5] := by
  refine ⟨rfl, Nat.le_refl _, by unfold maxLen; decide, (fun h => by cases h), ?_, ?_⟩
  · intro x hx i hi k hk
    cases hx
    have e : ∀ j, (Addr.add ⟨w.heap.size, 0, none⟩ j) = ⟨w.heap.size, j, none⟩ := by intro j; simp [Addr.add]; exact fun h => h.symm
    rw [e, cell_of_row _ _ _ _ _ _ (heap_alloc_new w w65C)]
    have hi2 : i < 2 := hi
    match i, hi2, k, hk with
    | 0, _, 0, _ => rfl
    | 0, _, 1, _ => rfl
    | 0, _, 2, _ => rfl
    | 0, _, 3, _ => rfl
    | 0, _, 4, _ => rfl
    | 0, _, 5, _ => rfl
    | 1, _, 0, _ => rfl
    | 1, _, 1, _ => rfl
    | 1, _, 2, _ => rfl
    | 1, _, 3, _ => rfl
    | 1, _, 4, _ => rfl
    | 1, _, 5, _ => rfl
  · intro i hi
    have hi2 : i < 2 := hi
    match i, hi2 with
    | 0, _ => exact ⟨rfl, Nat.le_refl _, Nat.zero_le _, fun _ => rfl, fun x hx => by cases hx⟩
    | 1, _ => exact ⟨rfl, Nat.le_refl _, Nat.zero_le _, fun _ => rfl, fun x hx => by cases hx⟩
def n11C : Obj := .cells #[.int .i64 11, .int .i64 (-1)] 3
theorem n11_nums (w : World) : NumsAt (w.alloc n11C) w.heap.size 0 [11, -1] := by
  intro i hi
  rw [Nat.zero_add, cell_of_row _ _ _ _ _ _ (heap_alloc_new w n11C)]
  have hi2 : i < 2 := hi
  match i, hi2 with
  | 0, _ => rfl
  | 1, _ => rfl
set_option maxHeartbeats 8000000 in
theorem wired_any (w : World) (hS : SizesAt w) (hR : RulesAt w) :
    Calls Tryd.prog 8 #[] w fun e w' => e = .returned (.bool true) ∧ Below w.heap.size w w' := by
  have hB0 : Below w.heap.size w (w.alloc w65C) := (Below.refl _ _).alloc (Nat.le_refl _) _
  have a1 := (send_any (some ⟨w.heap.size, 0, none⟩) 2 2 [w6, w5] _ (hS.kept hB0) (hR.kept hB0) (w65_frames w)).mono (fun _ _ h => And.intro (h.2.1 w65_send) h.2.2)
  rw [w65_best, w65_difs] at a1
  have e1 : idxG ([11, -1] : List Int) (-1) = 1 := by decide
  rw [e1] at a1
  have a2 := fun W h1 h2 => frBits_ok w5.f none 0 0 W h1 h2 ⟨rfl, Nat.le_refl _, Nat.zero_le _, fun _ => rfl, fun x hx => by cases hx⟩ w5_ok
  have a3 := fun W g h h1 h2 => equalN_true W g h 2 2 2 [11, -1] rfl (by decide) h1 h2
  have h11 := fun W => n11_nums W
  have b11 : ∀ W : World, Below W.heap.size W (W.alloc n11C) := fun W => (Below.refl _ _).alloc (Nat.le_refl _) _
  generalize ByteArray.mk (bitsL w5.f).toArray = X at *
  unfold w65C at a1 hB0
  unfold frameV w5 at a2
  unfold n11C at h11 b11
  simp only at a2
  have HA1 := Hid.mk a1
  have HA2 := Hid.mk a2
  have HA3 := Hid.mk a3
  have H11 := Hid.mk h11
  have B11 := Hid.mk b11
  have HB := Hid.mk hB0
  have HS := Hid.mk hS
  have HR := Hid.mk hR
  clear a1 a2 a3 h11 b11 hB0 hS hR e1
  go_enter Tryd.func8, Tryd.ntmps8
  go_wp2_with fail
  refine HA1.out.mono ?_
  rintro e w1 ⟨⟨g, rfl, hown⟩, hb1⟩
  have HB1 := Hid.mk (bl2 HB.out hb1)
  have HO := Hid.mk hown
  clear hown hb1
  go_wp2_with fail
  refine (HA2.out _ (HS.out.kept HB1.out) (HR.out.kept HB1.out)).mono ?_
  rintro e w2 ⟨rfl, hb2⟩
  have HB2 := Hid.mk (bl2 HB1.out hb2)
  have HO2 := Hid.mk (ownsRow_below HO.out hb2)
  clear hb2
  go_wp2_with fail
  refine (HA3.out _ _ _ (nums_of (HO2.out.alloc _)) (H11.out _)).mono ?_
  rintro e w3 ⟨rfl, hb3⟩
  have HB3 := Hid.mk (bl2 (bl2 HB2.out (B11.out _)) hb3)
  clear hb3
  go_wp2_with fail
  go_ret
  exact ⟨rfl, HB3.out⟩
end Bw
end Go.Proofs.YtdhmjbnpdmneiadDoor

/- What bytes.Equal and frame.Same answer. -/
namespace Go.Proofs.YtdhmjbnpdmneiadDoor
open Go.ChangeShapes Go.WideShapes Go.ChangeAt Go.RowKit
namespace Bw
open Bm Cm Classical

theorem convert_bytes {w : World} {a : Option Addr} {len cap : Nat} {l : List UInt8} (h : IsBytes w a len cap l) :
    (convert 28 9 (.slice a len cap)).run Tryd.prog w = .ok (.string ⟨l.toArray⟩) w := by
  obtain ⟨h1, h2, h3, h4, h5⟩ := h
  cases a with
  | none =>
    have h0 := h4 rfl
    subst h0
    have hl : l = [] := List.eq_nil_of_length_eq_zero h1
    subst hl
    exact run_convert_bytes_nil w 28 5 Tryd.underlying28 Tryd.underlying5 0 cap 9 Tryd.underlying9
  | some x =>
    have := run_convert_bytes_back w 28 9 5 x cap l Tryd.underlying28 Tryd.underlying5 Tryd.underlying9 (fun j hj => by
      rw [h5 x rfl j (by omega)]
      simp [List.getD, hj])
    rw [h1] at this
    exact this
theorem ba_listEq {A B : ByteArray} {x y : List UInt8} (hA : A.data.toList = x) (hB : B.data.toList = y) : (A.toList == B.toList) = decide (x = y) := by
  rw [ByteArray.toList_eq, ByteArray.toList_eq, hA, hB, Bool.eq_iff_iff, beq_iff_eq, decide_eq_true_iff]
set_option maxHeartbeats 1000000 in
theorem bytesEqual_any (a1 a2 : Option Addr) (n1 c1 n2 c2 : Nat) (l1 l2 : List UInt8) (w : World) (h1 : IsBytes w a1 n1 c1 l1) (h2 : IsBytes w a2 n2 c2 l2) :
    Calls Tryd.prog 46 #[.slice a1 n1 c1, .slice a2 n2 c2] w fun e w' => e = .returned (.bool (decide (l1 = l2))) ∧ w' = w := by
  have k1 := convert_bytes h1
  have k2 := convert_bytes h2
  have hl1 := mk_list l1
  have hl2 := mk_list l2
  have hz1 : l1.length ≤ maxLen := by rw [h1.1]; have := h1.2.1; have := h1.2.2.1; omega
  have hz2 : l2.length ≤ maxLen := by rw [h2.1]; have := h2.2.1; have := h2.2.2.1; omega
  generalize ByteArray.mk l1.toArray = A at *
  generalize ByteArray.mk l2.toArray = B at *
  have he := ba_listEq hl1 hl2
  rw [← he]
  clear h1 h2 hl1 hl2 he hz1 hz2
  go_enter Tryd.func46, Tryd.ntmps46
  go_wp2_with fail
  go_ret
  exact ⟨rfl, rfl⟩

set_option maxHeartbeats 8000000 in
theorem same_any (f g : Fr) (a1 a2 : Option Addr) (n1 c1 n2 c2 : Nat) (w : World) (h1 : IsBytes w a1 n1 c1 f.dt) (h2 : IsBytes w a2 n2 c2 g.dt) :
    Calls Tryd.prog 16 #[frameV f.id f.lo f.fa f.re f.sz a1 n1 c1, frameV g.id g.lo g.fa g.re g.sz a2 n2 c2] w fun e w' => e = .returned (.bool (decide (f = g))) ∧ Below w.heap.size w w' := by
  obtain ⟨id1, lo1, fa1, re1, sz1, dt1⟩ := f
  obtain ⟨id2, lo2, fa2, re2, sz2, dt2⟩ := g
  simp only at h1 h2 ⊢
  have hB1 := below_box w id1 lo1 fa1 re1 sz1 a1 n1 c1
  have hB2 := below_box (w.alloc (frameC id1 lo1 fa1 re1 sz1 a1 n1 c1)) id2 lo2 fa2 re2 sz2 a2 n2 c2
  have hB := bl2 hB1 hB2
  have HY1 := Hid.mk (isBytes_below h1 hB)
  have HY2 := Hid.mk (isBytes_below h2 hB)
  have HB := Hid.mk hB
  unfold frameC at HY1 HY2 HB
  unfold frameV
  clear h1 h2 hB1 hB2 hB
  by_cases hid : id1 = id2
  · subst hid
    by_cases hlo : lo1 = lo2
    · subst hlo
      by_cases hfa : fa1 = fa2
      · subst hfa
        by_cases hre : re1 = re2
        · subst hre
          by_cases hsz : sz1 = sz2
          · subst hsz
            by_cases hdt : dt1 = dt2
            · have hd : decide (dt1 = dt2) = true := by simpa using hdt
              have hbe := fun W hW1 hW2 => bytesEqual_any a1 a2 n1 c1 n2 c2 dt1 dt2 W hW1 hW2
              rw [hd] at hbe
              have HBE := Hid.mk hbe
              have hr : decide ((⟨id1, lo1, fa1, re1, sz1, dt1⟩ : Fr) = ⟨id1, lo1, fa1, re1, sz1, dt2⟩) = true := by simp [hdt]
              rw [hr]
              clear hbe hd hr hdt
              go_enter Tryd.func16, Tryd.ntmps16
              go_wp2_with fail
              refine (HBE.out _ HY1.out HY2.out).mono ?_
              rintro e w1 ⟨rfl, hw1⟩
              subst hw1
              go_wp2_with fail
              go_ret
              exact ⟨rfl, HB.out⟩
            · have hd : decide (dt1 = dt2) = false := by simpa using hdt
              have hbe := fun W hW1 hW2 => bytesEqual_any a1 a2 n1 c1 n2 c2 dt1 dt2 W hW1 hW2
              rw [hd] at hbe
              have HBE := Hid.mk hbe
              have hr : decide ((⟨id1, lo1, fa1, re1, sz1, dt1⟩ : Fr) = ⟨id1, lo1, fa1, re1, sz1, dt2⟩) = false := by simp [hdt]
              rw [hr]
              clear hbe hd hr hdt
              go_enter Tryd.func16, Tryd.ntmps16
              go_wp2_with fail
              refine (HBE.out _ HY1.out HY2.out).mono ?_
              rintro e w1 ⟨rfl, hw1⟩
              subst hw1
              go_wp2_with fail
              go_ret
              exact ⟨rfl, HB.out⟩
          · have hb : (sz1 == sz2) = false := by simpa using hsz
            have hr : decide ((⟨id1, lo1, fa1, re1, sz1, dt1⟩ : Fr) = ⟨id1, lo1, fa1, re1, sz2, dt2⟩) = false := by simp [hsz]
            rw [hr]
            clear hr hsz
            go_enter Tryd.func16, Tryd.ntmps16
            go_wp2_with fail
            go_ret
            exact ⟨rfl, HB.out⟩
        · have hb : (re1 == re2) = false := by simpa using hre
          have hr : decide ((⟨id1, lo1, fa1, re1, sz1, dt1⟩ : Fr) = ⟨id1, lo1, fa1, re2, sz2, dt2⟩) = false := by simp [hre]
          rw [hr]
          clear hr hre
          go_enter Tryd.func16, Tryd.ntmps16
          go_wp2_with fail
          go_ret
          exact ⟨rfl, HB.out⟩
      · have hb : (fa1 == fa2) = false := by simpa using hfa
        have hr : decide ((⟨id1, lo1, fa1, re1, sz1, dt1⟩ : Fr) = ⟨id1, lo1, fa2, re2, sz2, dt2⟩) = false := by simp [hfa]
        rw [hr]
        clear hr hfa
        go_enter Tryd.func16, Tryd.ntmps16
        go_wp2_with fail
        go_ret
        exact ⟨rfl, HB.out⟩
    · have hb : (lo1 == lo2) = false := by simpa using hlo
      have hr : decide ((⟨id1, lo1, fa1, re1, sz1, dt1⟩ : Fr) = ⟨id1, lo2, fa2, re2, sz2, dt2⟩) = false := by simp [hlo]
      rw [hr]
      clear hr hlo
      go_enter Tryd.func16, Tryd.ntmps16
      go_wp2_with fail
      go_ret
      exact ⟨rfl, HB.out⟩
  · have hb : (id1 == id2) = false := by simpa using hid
    have hr : decide ((⟨id1, lo1, fa1, re1, sz1, dt1⟩ : Fr) = ⟨id2, lo2, fa2, re2, sz2, dt2⟩) = false := by simp [hid]
    rw [hr]
    clear hr hid
    go_enter Tryd.func16, Tryd.ntmps16
    go_wp2_with fail
    go_ret
    exact ⟨rfl, HB.out⟩
end Bw
end Go.Proofs.YtdhmjbnpdmneiadDoor

/- The table of the numbers of bytes off the row's own condition. -/
namespace Go.Proofs.YtdhmjbnpdmneiadDoor
open Go.ChangeShapes Go.WideShapes Go.ChangeAt Go.RowKit
namespace Bw
theorem fsz_eq : Rows.laid_omnibus_frame_sizes (H := Unit) = Lib.tabData .i64 sizesI := by kernel_rfl
theorem fsz_t : Tryd.prog.underlying 110 = some (.array 16 3) := by kernel_rfl
theorem fsz_c : Tryd.prog.cellsOf 110 = 16 := by kernel_rfl
theorem fsz_c1 : Tryd.prog.cellsOf 3 = 1 := by kernel_rfl
theorem fsz_g : Tryd.prog.globalNamed "omnibus/frame.sizes" = some 2 := by kernel_rfl
theorem fsz_y : (Tryd.prog.globals[2]?).map (·.type) = some 110 := by kernel_rfl
theorem sizes_of {W : World} {laid : List (String × DataW Unit)} (hL : laidMet Tryd.prog laid W)
    (h1 : ("omnibus/frame.sizes", Rows.laid_omnibus_frame_sizes) ∈ laid) : SizesAt W := by
  obtain ⟨g, t, cs, fuel, p, hg, hty, hvar, hd⟩ := Lib.laidMet.reads hL h1
  obtain rfl := Option.some.inj (fsz_g.symm.trans hg)
  obtain rfl := Option.some.inj (fsz_y.symm.trans hty)
  rw [fsz_eq] at hd
  have hcs := Lib.cells_of_tab fsz_t Tryd.underlying3 fsz_c1 fsz_c hd
  intro i hi
  have := World.var?_cell hg hvar i
  rw [this, ← Array.getElem?_toList, hcs]
  rw [List.getElem?_map, List.getElem?_eq_getElem hi]
  simp [List.getD, hi]
end Bw
end Go.Proofs.YtdhmjbnpdmneiadDoor

/- The table of kinds off the row's own condition: its cells hold the sizes, polynomials, starts and ends. -/
namespace Go.Proofs.YtdhmjbnpdmneiadDoor
open Go.ChangeShapes Go.WideShapes Go.ChangeAt Go.RowKit
namespace Bw
open Cm
def ruleZ (k : Nat) : List Int := [(kS k : Int), (kP k : Int), (kF k : Int), (kE k : Int)]
def rulesD : List (DataW Unit) := [0, 1, 2, 3, 4].map fun k => .agg ((ruleZ k).map fun z => .lit (.int .i64 z))
theorem five_at (k : Nat) (hk : k ≤ 4) : [0, 1, 2, 3, 4][k]? = some k := by
  match k, hk with
  | 0, _ => rfl
  | 1, _ => rfl
  | 2, _ => rfl
  | 3, _ => rfl
  | 4, _ => rfl
theorem rulesD_at (k : Nat) (hk : k ≤ 4) : rulesD[k]? = some (.agg ((ruleZ k).map fun z => .lit (.int .i64 z))) := by
  rw [rulesD, List.getElem?_map, five_at k hk]; rfl
theorem rules_eq : Rows.laid_omnibus_check_rules (H := Unit) = .agg rulesD := by kernel_rfl
theorem rules_t : Tryd.prog.underlying 98 = some (.array 5 97) := by kernel_rfl
theorem rule_c : Tryd.prog.cellsOf 97 = 4 := by kernel_rfl
theorem int_c : Tryd.prog.cellsOf 3 = 1 := by kernel_rfl
theorem rules_g : Tryd.prog.globalNamed "omnibus/check.rules" = some 1 := by kernel_rfl
theorem rules_y : (Tryd.prog.globals[1]?).map (·.type) = some 98 := by kernel_rfl
theorem rules_of {W : World} {laid : List (String × DataW Unit)} (hL : laidMet Tryd.prog laid W)
    (h1 : ("omnibus/check.rules", Rows.laid_omnibus_check_rules) ∈ laid) : RulesAt W := by
  obtain ⟨g, t, cs, fuel, p, hg, hty, hvar, hd⟩ := Lib.laidMet.reads hL h1
  obtain rfl := Option.some.inj (rules_g.symm.trans hg)
  obtain rfl := Option.some.inj (rules_y.symm.trans hty)
  rw [rules_eq] at hd
  intro k hk
  obtain ⟨fuel', d, q, hdk, htr⟩ := Lib.array_elem rules_t hd k (by omega)
  have hdd : d = .agg ((ruleZ k).map fun z => .lit (.int .i64 z)) := by
    have := rulesD_at k hk
    rw [hdk] at this
    exact Option.some.inj this
  subst hdd
  have hz := Lib.ints_of_struct Tryd.underlying97 (by
    intro i f h
    match i, h with
    | 0, h => cases h; exact ⟨Tryd.underlying3, rfl, int_c⟩
    | 1, h => cases h; exact ⟨Tryd.underlying3, rfl, int_c⟩
    | 2, h => cases h; exact ⟨Tryd.underlying3, rfl, int_c⟩
    | 3, h => cases h; exact ⟨Tryd.underlying3, rfl, int_c⟩
    | i + 4, h => simp at h) rule_c htr
  rw [rule_c] at hz
  have hc : ∀ j, j < 4 → cs[k * 4 + j]? = ((ruleZ k).map fun z => Value.int .i64 z)[j]? := by
    intro j hj
    rw [← hz, List.getElem?_take_of_lt hj, List.getElem?_drop, Array.getElem?_toList]
  have hv := fun j => World.var?_cell hg hvar j
  refine ⟨?_, ?_, ?_, ?_⟩
  · rw [hv, ← Nat.add_zero (k * 4), hc 0 (by omega)]; rfl
  · rw [hv, hc 1 (by omega)]; rfl
  · rw [hv, hc 2 (by omega)]; rfl
  · rw [hv, hc 3 (by omega)]; rfl
end Bw
end Go.Proofs.YtdhmjbnpdmneiadDoor

/- The law WireWins: the bus is the winner's bits; where one's name comes first, it wins; whoever is read there is the winner. -/
namespace Go.Proofs.YtdhmjbnpdmneiadDoor
open Go.ChangeShapes Go.WideShapes Go.ChangeAt Go.RowKit
namespace Bw
open Bm Cm Go.Sort Classical
theorem isBytes_regr {w : World} {a : Option Addr} {len cap : Nat} {l : List UInt8} (h : IsBytes w a len cap l) (d : Nat) (os : Array Obj) : IsBytes (grow (redrawn w d) os) a len cap l := isBytes_below h (below_regrown w d os)
theorem frAt_regr {w : World} {g : Nat} {id : Int} {lo fa re : Bool} {sz : Int} {a : Option Addr} {len cap : Nat} (h : FrAt w g id lo fa re sz a len cap) (d : Nat) (os : Array Obj) : FrAt (grow (redrawn w d) os) g id lo fa re sz a len cap := h.kept (below_regrown w d os)
theorem cell_regr {w : World} {p : Addr} {v : Value} (h : w.cell? p = some v) (d : Nat) (os : Array Obj) : (grow (redrawn w d) os).cell? p = some v := cell_kept (below_regrown w d os) h
set_option maxHeartbeats 8000000 in
theorem wwins_bad (a : Option Addr) (n cap : Nat) (l : List FrV) (w : World) (hS : SizesAt w) (hR : RulesAt w) (hF : IsFrames w a n cap l) (hE : sendE l ≠ 0) :
    Calls Tryd.prog 4 #[.slice a n cap] w fun e w' => e = .returned (.bool true) ∧ Below w.heap.size w w' := by
  have hf : firstE l ≠ 0 := fun h => hE (first_send h).1
  have HA1 := Hid.mk ((send_any a n cap l w hS hR hF).mono (fun _ _ h => And.intro (h.1 hE) h.2.2))
  have HA2 := Hid.mk (fun W h1 h2 => first_any a n cap l W h1 h2)
  rw [if_neg hf] at HA2
  have HA3 := Hid.mk (fun W h1 h2 => wired_any W h1 h2)
  have HF := Hid.mk hF
  have HS := Hid.mk hS
  have HR := Hid.mk hR
  have q1 : (sendE l != 0) = true := by simpa using hE
  have q2 : (firstE l == 0) = false := by simpa using hf
  generalize sendE l = se at *
  generalize firstE l = fe at *
  clear hS hR hF hE hf
  go_enter Tryd.func4, Tryd.ntmps4
  go_wp2_with fail
  refine HA1.out.mono ?_
  rintro e w1 ⟨rfl, hb1⟩
  have HB1 := Hid.mk hb1
  clear hb1
  go_wp2_with fail
  refine (HA2.out _ (HS.out.kept HB1.out) (HF.out.kept HB1.out)).mono ?_
  rintro e w2 ⟨rfl, hb2⟩
  have HB2 := Hid.mk (bl2 HB1.out hb2)
  clear hb2 HB1
  go_wp2_with fail
  refine (HA3.out _ (HS.out.kept HB2.out) (HR.out.kept HB2.out)).mono ?_
  rintro e w3 ⟨rfl, hb3⟩
  have HB3 := Hid.mk (bl2 HB2.out hb3)
  clear hb3 HB2
  go_wp2_with fail
  go_ret
  exact ⟨rfl, HB3.out⟩
set_option maxHeartbeats 16000000 in
set_option maxRecDepth 100000 in
theorem wwins_first (a : Option Addr) (n cap : Nat) (l : List FrV) (w : World) (hS : SizesAt w) (hR : RulesAt w) (hF : IsFrames w a n cap l) (hE : sendE l = 0) (hf : firstE l = 0) :
    Calls Tryd.prog 4 #[.slice a n cap] w fun e w' => e = .returned (.bool true) ∧ Below w.heap.size w w' := by
  obtain ⟨i, hil, hidx, hbits, hfr⟩ := send_who hE
  have hl := hF.len
  have hk := (first_send hf).2
  have a1 := (send_any a n cap l w hS hR hF).mono (fun _ _ h => And.intro (h.2.1 hE) h.2.2)
  have a2 := fun W h1 h2 => first_any a n cap l W h1 h2
  rw [if_pos hf, ← hk, hidx, hf] at a2
  rw [hidx, ← hbits] at a1
  have hin : i < n := by omega
  cases a with
  | none => exact absurd (hF.none rfl) (by omega)
  | some x =>
    have cc := fun (j : Nat) (hj : j < 6) => hF.cell x rfl i hil j hj
    have hby := hF.bytes i hil
    have HF := Hid.mk hF
    have HS := Hid.mk hS
    have HR := Hid.mk hR
    generalize l[i] = v at *
    obtain ⟨f, fa, fl, fc⟩ := v
    have c0 := cc 0 (by omega)
    have c1 := cc 1 (by omega)
    have c2 := cc 2 (by omega)
    have c3 := cc 3 (by omega)
    have c4 := cc 4 (by omega)
    have c5 := cc 5 (by omega)
    rw [add_next] at c1 c2 c3 c4 c5
    rw [Nat.add_zero] at c0
    simp only [FrV.cells, List.getElem_cons_zero, List.getElem_cons_succ, Nat.reduceAdd] at c0 c1 c2 c3 c4 c5
    simp only at hby hfr a1
    have C0 := Hid.mk c0
    have C1 := Hid.mk c1
    have C2 := Hid.mk c2
    have C3 := Hid.mk c3
    have C4 := Hid.mk c4
    have C5 := Hid.mk c5
    have HY := Hid.mk hby
    have a4 := fun W h1 h2 hy => frBits_ok f fa fl fc W h1 h2 hy hfr
    have a5 := fun W h1 h2 => readBack_any f onesL [] ⟨(bitsL f).toArray⟩ W h1 h2 hfr (.inl rfl) (by simp [bitsL_pre]) rfl (by
      have h1 := bitsL_len f
      have h2 := preL_len f hfr
      show (bitsL f).toArray.size ≤ 1000
      simp; omega)
    have a6 := fun W ga gl gc h1 h2 => same_any f f ga fa gl gc fl fc W h1 h2
    have hdec : decide (f = f) = true := by simp
    rw [hdec] at a6
    have hsz : (preL f).length + 10 = (ByteArray.mk (bitsL f).toArray).size := by rw [← bitsL_len]; simp [ByteArray.size]
    rw [hsz] at a5
    generalize ByteArray.mk (bitsL f).toArray = BT at *
    have hin' : (i : Int) < (n : Int) := by omega
    have e1 : (BT.toList == BT.toList) = true := by simp
    have HA1 := Hid.mk a1
    have HA2 := Hid.mk a2
    have HA3 := Hid.mk (fun W h1 h2 => wired_any W h1 h2)
    have HA4 := Hid.mk a4
    have HA5 := Hid.mk a5
    have HA6 := Hid.mk a6
    unfold frameV at HA4 HA5 HA6
    clear hS hR hF hE hf cc c0 c1 c2 c3 c4 c5 hby a1 a2 a4 a5 a6 hdec hsz hfr hidx hbits hl
    clear hk
    go_enter Tryd.func4, Tryd.ntmps4
    go_wp2_with fail
    refine HA1.out.mono ?_
    rintro e w1 ⟨⟨gl, rfl, -⟩, hb1⟩
    have HB1 := Hid.mk hb1
    clear hb1
    go_wp2_with fail
    refine (HA2.out _ (HS.out.kept HB1.out) (HF.out.kept HB1.out)).mono ?_
    rintro e w2 ⟨rfl, hb2⟩
    have HB2 := Hid.mk (bl2 HB1.out hb2)
    clear hb2 HB1
    go_wp2_with fail
    refine (HA3.out _ (HS.out.kept HB2.out) (HR.out.kept HB2.out)).mono ?_
    rintro e w3 ⟨rfl, hb3⟩
    have HB3 := Hid.mk (bl2 HB2.out hb3)
    clear hb3 HB2
    have d0 := cell_kept HB3.out C0.out
    have d1 := cell_kept HB3.out C1.out
    have d2 := cell_kept HB3.out C2.out
    have d3 := cell_kept HB3.out C3.out
    have d4 := cell_kept HB3.out C4.out
    have d5 := cell_kept HB3.out C5.out
    go_wp2_with fail
    refine (HA4.out _ (HS.out.kept HB3.out) (HR.out.kept HB3.out) (isBytes_below HY.out HB3.out)).mono ?_
    rintro e w4 ⟨rfl, hb4⟩
    have HB4 := Hid.mk (bl2 HB3.out hb4)
    clear hb4 HB3 d0 d1 d2 d3 d4 d5
    go_wp2_with fail
    refine (HA5.out _ (HS.out.kept HB4.out) (HR.out.kept HB4.out)).mono ?_
    rintro e w5 ⟨ga, gn, gc, rfl, hyg, hb5⟩
    have HB5 := Hid.mk (bl2 HB4.out hb5)
    have hbx : Below w5.heap.size w5 (w5.alloc (.cells #[.int .i64 f.id, .bool f.lo, .bool f.fa, .bool f.re, .int .i64 f.sz, .slice ga gn gc] 30)) := (Below.refl _ _).alloc (Nat.le_refl _) _
    have HK6 := Hid.mk (FrAt.box w5 f.id f.lo f.fa f.re f.sz ga gn gc)
    unfold frameC at HK6
    have HYG := Hid.mk (isBytes_below hyg hbx)
    have HB6 := Hid.mk (bl2 HB5.out hbx)
    have HYF := Hid.mk (isBytes_below HY.out HB6.out)
    clear hb5 hyg hbx HB4 HB5
    go_wp2_with fail
    generalize (w5.alloc (.cells #[.int .i64 f.id, .bool f.lo, .bool f.fa, .bool f.re, .int .i64 f.sz, .slice ga gn gc] 30)) = w6 at *
    have rf0 := fun d os => (frAt_regr HK6.out d os).c0
    have rf1 := fun d os => (frAt_regr HK6.out d os).c1
    have rf2 := fun d os => (frAt_regr HK6.out d os).c2
    have rf3 := fun d os => (frAt_regr HK6.out d os).c3
    have rf4 := fun d os => (frAt_regr HK6.out d os).c4
    have rf5 := fun d os => (frAt_regr HK6.out d os).c5
    have rg0 := fun d os => cell_regr (cell_kept HB6.out C0.out) d os
    have rg1 := fun d os => cell_regr (cell_kept HB6.out C1.out) d os
    have rg2 := fun d os => cell_regr (cell_kept HB6.out C2.out) d os
    have rg3 := fun d os => cell_regr (cell_kept HB6.out C3.out) d os
    have rg4 := fun d os => cell_regr (cell_kept HB6.out C4.out) d os
    have rg5 := fun d os => cell_regr (cell_kept HB6.out C5.out) d os
    refine wp_region_quiet_below (by kernel_rfl) (by kernel_rfl) ?_
    repeat (go_big_quiet_step ((go_at_call 16; exact Calls.regrown_of (HA6.out _ _ _ _ (isBytes_regr HYG.out _ _) (isBytes_regr HYF.out _ _)))))
    refine wpQuiet_nil ?_
    intro _ hw'
    obtain ⟨⟨dq, osq⟩, hw''⟩ := hw'
    have hbq := below_regrown w6 dq osq
    rw [hw'']
    generalize grow (redrawn w6 dq) osq = w7 at *
    have HB7 := Hid.mk (bl2 HB6.out hbq)
    clear hw'' hbq HB6 HK6 HYG HYF HA6 rf0 rf1 rf2 rf3 rf4 rf5 rg0 rg1 rg2 rg3 rg4 rg5
    go_wp2_with fail
    go_ret
    exact ⟨rfl, HB7.out⟩
set_option maxHeartbeats 16000000 in
set_option maxRecDepth 100000 in
theorem wwins_other (a : Option Addr) (n cap : Nat) (l : List FrV) (w : World) (hS : SizesAt w) (hR : RulesAt w) (hF : IsFrames w a n cap l) (hE : sendE l = 0) (hf : firstE l ≠ 0) :
    Calls Tryd.prog 4 #[.slice a n cap] w fun e w' => e = .returned (.bool true) ∧ Below w.heap.size w w' := by
  obtain ⟨i, hil, hidx, hbits, hfr⟩ := send_who hE
  have hl := hF.len
  have a1 := (send_any a n cap l w hS hR hF).mono (fun _ _ h => And.intro (h.2.1 hE) h.2.2)
  have a2 := fun W h1 h2 => first_any a n cap l W h1 h2
  rw [if_neg hf] at a2
  have q2 : (firstE l == 0) = false := by simpa using hf
  generalize firstE l = fe at *
  rw [hidx, ← hbits] at a1
  have hin : i < n := by omega
  cases a with
  | none => exact absurd (hF.none rfl) (by omega)
  | some x =>
    have cc := fun (j : Nat) (hj : j < 6) => hF.cell x rfl i hil j hj
    have hby := hF.bytes i hil
    have HF := Hid.mk hF
    have HS := Hid.mk hS
    have HR := Hid.mk hR
    generalize l[i] = v at *
    obtain ⟨f, fa, fl, fc⟩ := v
    have c0 := cc 0 (by omega)
    have c1 := cc 1 (by omega)
    have c2 := cc 2 (by omega)
    have c3 := cc 3 (by omega)
    have c4 := cc 4 (by omega)
    have c5 := cc 5 (by omega)
    rw [add_next] at c1 c2 c3 c4 c5
    rw [Nat.add_zero] at c0
    simp only [FrV.cells, List.getElem_cons_zero, List.getElem_cons_succ, Nat.reduceAdd] at c0 c1 c2 c3 c4 c5
    simp only at hby hfr a1
    have C0 := Hid.mk c0
    have C1 := Hid.mk c1
    have C2 := Hid.mk c2
    have C3 := Hid.mk c3
    have C4 := Hid.mk c4
    have C5 := Hid.mk c5
    have HY := Hid.mk hby
    have a4 := fun W h1 h2 hy => frBits_ok f fa fl fc W h1 h2 hy hfr
    have a5 := fun W h1 h2 => readBack_any f onesL [] ⟨(bitsL f).toArray⟩ W h1 h2 hfr (.inl rfl) (by simp [bitsL_pre]) rfl (by
      have h1 := bitsL_len f
      have h2 := preL_len f hfr
      show (bitsL f).toArray.size ≤ 1000
      simp; omega)
    have a6 := fun W ga gl gc h1 h2 => same_any f f ga fa gl gc fl fc W h1 h2
    have hdec : decide (f = f) = true := by simp
    rw [hdec] at a6
    have hsz : (preL f).length + 10 = (ByteArray.mk (bitsL f).toArray).size := by rw [← bitsL_len]; simp [ByteArray.size]
    rw [hsz] at a5
    generalize ByteArray.mk (bitsL f).toArray = BT at *
    have hin' : (i : Int) < (n : Int) := by omega
    have e1 : (BT.toList == BT.toList) = true := by simp
    have HA1 := Hid.mk a1
    have HA2 := Hid.mk a2
    have HA3 := Hid.mk (fun W h1 h2 => wired_any W h1 h2)
    have HA4 := Hid.mk a4
    have HA5 := Hid.mk a5
    have HA6 := Hid.mk a6
    unfold frameV at HA4 HA5 HA6
    clear hS hR hF hE hf cc c0 c1 c2 c3 c4 c5 hby a1 a2 a4 a5 a6 hdec hsz hfr hidx hbits hl
    go_enter Tryd.func4, Tryd.ntmps4
    go_wp2_with fail
    refine HA1.out.mono ?_
    rintro e w1 ⟨⟨gl, rfl, -⟩, hb1⟩
    have HB1 := Hid.mk hb1
    clear hb1
    go_wp2_with fail
    refine (HA2.out _ (HS.out.kept HB1.out) (HF.out.kept HB1.out)).mono ?_
    rintro e w2 ⟨rfl, hb2⟩
    have HB2 := Hid.mk (bl2 HB1.out hb2)
    clear hb2 HB1
    go_wp2_with fail
    refine (HA3.out _ (HS.out.kept HB2.out) (HR.out.kept HB2.out)).mono ?_
    rintro e w3 ⟨rfl, hb3⟩
    have HB3 := Hid.mk (bl2 HB2.out hb3)
    clear hb3 HB2
    have d0 := cell_kept HB3.out C0.out
    have d1 := cell_kept HB3.out C1.out
    have d2 := cell_kept HB3.out C2.out
    have d3 := cell_kept HB3.out C3.out
    have d4 := cell_kept HB3.out C4.out
    have d5 := cell_kept HB3.out C5.out
    go_wp2_with fail
    refine (HA4.out _ (HS.out.kept HB3.out) (HR.out.kept HB3.out) (isBytes_below HY.out HB3.out)).mono ?_
    rintro e w4 ⟨rfl, hb4⟩
    have HB4 := Hid.mk (bl2 HB3.out hb4)
    clear hb4 HB3 d0 d1 d2 d3 d4 d5
    go_wp2_with fail
    refine (HA5.out _ (HS.out.kept HB4.out) (HR.out.kept HB4.out)).mono ?_
    rintro e w5 ⟨ga, gn, gc, rfl, hyg, hb5⟩
    have HB5 := Hid.mk (bl2 HB4.out hb5)
    have hbx : Below w5.heap.size w5 (w5.alloc (.cells #[.int .i64 f.id, .bool f.lo, .bool f.fa, .bool f.re, .int .i64 f.sz, .slice ga gn gc] 30)) := (Below.refl _ _).alloc (Nat.le_refl _) _
    have HK6 := Hid.mk (FrAt.box w5 f.id f.lo f.fa f.re f.sz ga gn gc)
    unfold frameC at HK6
    have HYG := Hid.mk (isBytes_below hyg hbx)
    have HB6 := Hid.mk (bl2 HB5.out hbx)
    have HYF := Hid.mk (isBytes_below HY.out HB6.out)
    clear hb5 hyg hbx HB4 HB5
    go_wp2_with fail
    generalize (w5.alloc (.cells #[.int .i64 f.id, .bool f.lo, .bool f.fa, .bool f.re, .int .i64 f.sz, .slice ga gn gc] 30)) = w6 at *
    have rf0 := fun d os => (frAt_regr HK6.out d os).c0
    have rf1 := fun d os => (frAt_regr HK6.out d os).c1
    have rf2 := fun d os => (frAt_regr HK6.out d os).c2
    have rf3 := fun d os => (frAt_regr HK6.out d os).c3
    have rf4 := fun d os => (frAt_regr HK6.out d os).c4
    have rf5 := fun d os => (frAt_regr HK6.out d os).c5
    have rg0 := fun d os => cell_regr (cell_kept HB6.out C0.out) d os
    have rg1 := fun d os => cell_regr (cell_kept HB6.out C1.out) d os
    have rg2 := fun d os => cell_regr (cell_kept HB6.out C2.out) d os
    have rg3 := fun d os => cell_regr (cell_kept HB6.out C3.out) d os
    have rg4 := fun d os => cell_regr (cell_kept HB6.out C4.out) d os
    have rg5 := fun d os => cell_regr (cell_kept HB6.out C5.out) d os
    refine wp_region_quiet_below (by kernel_rfl) (by kernel_rfl) ?_
    repeat (go_big_quiet_step ((go_at_call 16; exact Calls.regrown_of (HA6.out _ _ _ _ (isBytes_regr HYG.out _ _) (isBytes_regr HYF.out _ _)))))
    refine wpQuiet_nil ?_
    intro _ hw'
    obtain ⟨⟨dq, osq⟩, hw''⟩ := hw'
    have hbq := below_regrown w6 dq osq
    rw [hw'']
    generalize grow (redrawn w6 dq) osq = w7 at *
    have HB7 := Hid.mk (bl2 HB6.out hbq)
    clear hw'' hbq HB6 HK6 HYG HYF HA6 rf0 rf1 rf2 rf3 rf4 rf5 rg0 rg1 rg2 rg3 rg4 rg5
    go_wp2_with fail
    go_ret
    exact ⟨rfl, HB7.out⟩
end Bw
namespace wireWins
open Bw Bm
theorem walk (a : Option Addr) (n cap : Nat) (l : List FrV) (w : World) (hF : IsFrames w a n cap l) (hL : laidMet Tryd.prog Rows.wireWinsRow.laid w) :
    Calls Tryd.prog 4 #[.slice a n cap] w fun e w' => e = .returned (.bool true) ∧ Below w.heap.size w w' := by
  have hS := sizes_of hL (by simp [Rows.wireWinsRow])
  have hR := rules_of hL (by simp [Rows.wireWinsRow])
  by_cases hE : sendE l = 0
  · by_cases hf : firstE l = 0
    · exact wwins_first a n cap l w hS hR hF hE hf
    · exact wwins_other a n cap l w hS hR hF hE hf
  · exact wwins_bad a n cap l w hS hR hF hE
end wireWins
end Go.Proofs.YtdhmjbnpdmneiadDoor
