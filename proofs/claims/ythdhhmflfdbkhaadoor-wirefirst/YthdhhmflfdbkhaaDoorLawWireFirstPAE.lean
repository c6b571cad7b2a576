/- Joined out of our texts: WFirst, WireCnt, FrHead, ShelfCnt, FrCount, StepMath, CheckNext, CheckOf, CheckSm. -/
import Derived.Test.YthdhhmflfdbkhaaDoorLawWireFirstPAC
import Derived.Test.YthdhhmflfdbkhaaDoorLawWireFirstPAD
import Derived.Test.YthdhhmflfdbkhaaDoorLawWireFirstPAB
import Derived.BigQuiet
import Derived.Lib.QuietBelow
import Derived.Shelf.Strings.Count
import Derived.Test.YthdhhmflfdbkhaaDoorProg
import Derived.Test.YthdhhmflfdbkhaaDoorLawWireFirstPAA
import Derived.Test.YthdhhmflfdbkhaaDoorKindMath
import Derived.Test.YthdhhmflfdbkhaaDoorSumRow
import Derived.Deep.RegionWith
import Derived.Test.YthdhhmflfdbkhaaDoorLawWireFirstRAB
/- What wire.First answers of any frames. -/
namespace Go.Proofs.YthdhhmflfdbkhaaDoor
open Go.ChangeShapes Go.WideShapes Go.ChangeAt Go.RowKit
namespace Bw
open Bm Cm
/-- the names of frames -/
def namesL (l : List FrV) : List (List UInt8) := l.map fun v => nameL v.f
/-- the error that First tells -/
def firstE (l : List FrV) : Int := if 6 < l.length then 2 else if firE (l.map (·.f)) ≠ 0 then firE (l.map (·.f)) else if l.length = 0 then 8 else onlyE (namesL l) (minL (namesL l))
set_option maxHeartbeats 2000000 in
theorem first_many (a : Option Addr) (n cap : Nat) (w : World) (h : 6 < n) :
    Calls Tryd.prog 6 #[.slice a n cap] w fun e w' => e = .returned (.tuple #[.int .i64 0, .int .i64 2]) ∧ w' = w := by
  have h2 : (6 : Int) < (n : Int) := by omega
  go_enter Tryd.func6, Tryd.ntmps6
  go_wp2_with fail
  go_ret2
  exact ⟨rfl, rfl⟩
set_option maxHeartbeats 2000000 in
theorem first_bad (a : Option Addr) (n cap : Nat) (l : List FrV) (w : World) (hS : SizesAt w) (hF : IsFrames w a n cap l) (h6 : n ≤ 6) (hz : firE (l.map (·.f)) ≠ 0) :
    Calls Tryd.prog 6 #[.slice a n cap] w fun e w' => e = .returned (.tuple #[.int .i64 0, .int .i64 (firE (l.map (·.f)))]) ∧ Below w.heap.size w w' := by
  have ha := (eachName_any a n cap l w hS hF h6).mono (fun _ _ h => And.intro (h.1 hz) h.2.2)
  have HE := Hid.mk ha
  have hne : (firE (l.map (·.f)) != 0) = true := by simpa using hz
  have h6' : (n : Int) ≤ 6 := by omega
  generalize firE (l.map (·.f)) = ce at *
  clear ha hS hF hz
  go_enter Tryd.func6, Tryd.ntmps6
  go_wp2_with fail
  refine HE.out.mono ?_
  rintro e w1 ⟨rfl, hb1⟩
  go_wp2_with fail
  go_ret2
  exact ⟨rfl, hb1⟩
set_option maxHeartbeats 2000000 in
theorem first_none (a : Option Addr) (n cap : Nat) (l : List FrV) (w : World) (hS : SizesAt w) (hF : IsFrames w a n cap l) (h0 : n = 0) :
    Calls Tryd.prog 6 #[.slice a n cap] w fun e w' => e = .returned (.tuple #[.int .i64 0, .int .i64 8]) ∧ Below w.heap.size w w' := by
  subst h0
  have hz : firE (l.map (·.f)) = 0 := by
    have : l = [] := List.eq_nil_of_length_eq_zero hF.len
    subst this; rfl
  have ha := (eachName_any a 0 cap l w hS hF (by omega)).mono (fun _ _ h => And.intro (h.2.1 hz) h.2.2)
  have HE := Hid.mk ha
  clear ha hS hF hz
  go_enter Tryd.func6, Tryd.ntmps6
  go_wp2_with fail
  refine HE.out.mono ?_
  rintro e w1 ⟨⟨rv, rfl, hown⟩, hb1⟩
  obtain ⟨ra, rc, rfl⟩ := owns_slice hown
  clear hown
  go_wp2_with fail
  go_ret2
  exact ⟨rfl, hb1⟩
theorem owns_room {w : World} {base : Nat} {e : TypeId} {size : Nat} {v : Value} {n : Nat} {xs : List Value} (h : w.ownsRow base e size v n xs) (h0 : 0 < n) : ∃ g cap, v = .slice (some ⟨g, 0, none⟩) n cap ∧ n ≤ cap := by
  rcases h.2 with ⟨rfl, rfl⟩ | ⟨g, cap, cur, rfl, _, _, hc, -⟩
  · omega
  · exact ⟨_, _, rfl, hc⟩
set_option maxHeartbeats 4000000 in
theorem first_ok (a : Option Addr) (n cap : Nat) (l : List FrV) (w : World) (hS : SizesAt w) (hF : IsFrames w a n cap l) (h0 : 0 < n) (h6 : n ≤ 6) (hz : firE (l.map (·.f)) = 0) :
    Calls Tryd.prog 6 #[.slice a n cap] w fun e w' => e = .returned (.tuple #[.int .i64 (onlyN (namesL l) (minL (namesL l))), .int .i64 (onlyE (namesL l) (minL (namesL l)))]) ∧ Below w.heap.size w w' := by
  have hrl : (namesL l).length = n := by rw [namesL, List.length_map, hF.len]
  have ha := (eachName_any a n cap l w hS hF h6).mono (fun _ _ h => And.intro (h.2.1 hz) h.2.2)
  have hm := fun g c W hX => minS_any g n c (namesL l) W hrl h0 (by omega) hX
  have ho := fun g c W hc hX => onlyT_any g n c (namesL l) (minL (namesL l)) W hrl h6 hc hX
  have HRO := Hid.mk (show strC (l.map fun v => nameL v.f) = strC (namesL l) from rfl)
  generalize onlyN (namesL l) (minL (namesL l)) = oN at *
  generalize onlyE (namesL l) (minL (namesL l)) = oE at *
  generalize ByteArray.mk (minL (namesL l)).toArray = BT at *
  have h0' : ((n : Int) == 0) = false := by rw [beq_eq_false_iff_ne]; omega
  have h6' : (n : Int) ≤ 6 := by omega
  have HE := Hid.mk ha
  have HM := Hid.mk hm
  have HO := Hid.mk ho
  clear ha hm ho hS hF hz hrl
  go_enter Tryd.func6, Tryd.ntmps6
  go_wp2_with fail
  refine HE.out.mono ?_
  rintro e w1 ⟨⟨rv, rfl, hown⟩, hb1⟩
  rw [HRO.out] at hown
  obtain ⟨gr, cr, rfl, hnc⟩ := owns_room hown h0
  have HX := Hid.mk (strs_of hown)
  have HB1 := Hid.mk hb1
  have HNC := Hid.mk hnc
  clear hown hb1 hnc
  go_wp2_with fail
  refine (HM.out _ _ _ HX.out).mono ?_
  rintro e w2 ⟨rfl, hw2⟩
  subst hw2
  go_wp2_with fail
  refine (HO.out _ _ _ HNC.out HX.out).mono ?_
  rintro e w3 ⟨rfl, hw3⟩
  subst hw3
  go_wp2_with fail
  go_ret2
  exact ⟨rfl, HB1.out⟩
/-- First of any frames -/
theorem first_any (a : Option Addr) (n cap : Nat) (l : List FrV) (w : World) (hS : SizesAt w) (hF : IsFrames w a n cap l) :
    Calls Tryd.prog 6 #[.slice a n cap] w fun e w' => e = .returned (.tuple #[.int .i64 (if firstE l = 0 then idxG (namesL l) (minL (namesL l)) else 0), .int .i64 (firstE l)]) ∧ Below w.heap.size w w' := by
  have hl := hF.len
  by_cases h6 : 6 < n
  · have e1 : firstE l = 2 := by unfold firstE; rw [if_pos (by omega)]
    rw [e1]
    refine (first_many a n cap w h6).mono ?_
    rintro e w1 ⟨rfl, rfl⟩
    exact ⟨rfl, Below.refl _ _⟩
  · by_cases hz : firE (l.map (·.f)) = 0
    · by_cases h0 : n = 0
      · have e1 : firstE l = 8 := by unfold firstE; rw [if_neg (by omega), if_neg (fun h => h hz), if_pos (by omega)]
        rw [e1]
        exact first_none a n cap l w hS hF h0
      · have e1 : firstE l = onlyE (namesL l) (minL (namesL l)) := by unfold firstE; rw [if_neg (by omega), if_neg (fun h => h hz), if_neg (by omega)]
        rw [e1]
        exact first_ok a n cap l w hS hF (by omega) (by omega) hz
    · have e1 : firstE l = firE (l.map (·.f)) := by unfold firstE; rw [if_neg (by omega), if_pos hz]
      rw [e1, if_neg hz]
      exact first_bad a n cap l w hS hF (by omega) hz
end Bw
end Go.Proofs.YthdhhmflfdbkhaaDoor

/- How often a row stands in a list; plain facts on lists; of no program. -/
namespace Go.Proofs.YthdhhmflfdbkhaaDoor
namespace Bw
open Bm
theorem beq_rows : (instBEqOfDecidableEq : BEq (List UInt8)) = List.instBEq := by
  have h : ∀ a b : List UInt8, @BEq.beq _ instBEqOfDecidableEq a b = @BEq.beq _ List.instBEq a b := fun a b =>
    Bool.eq_iff_iff.2 ((@beq_iff_eq _ instBEqOfDecidableEq _ a b).trans (@beq_iff_eq _ List.instBEq _ a b).symm)
  exact congrArg BEq.mk (funext fun a => funext fun b => h a b)
theorem onlyE_rows {l : List (List UInt8)} {x : List UInt8} (h : x ∈ l) : onlyE l x = if 1 < l.count x then 9 else 0 := by
  rw [onlyE_mem h, beq_rows]
end Bw
end Go.Proofs.YthdhhmflfdbkhaaDoor

/- What frame.head answers of a right frame. -/
namespace Go.Proofs.YthdhhmflfdbkhaaDoor
open Go.ChangeShapes Go.WideShapes Go.ChangeAt Go.RowKit
namespace Bw
open Bm Cm Go.Sort

theorem sizes_low (n : Nat) (h : n ≤ 8) : n ∈ sizesL ∧ sizesL.idxOf n = n := by
  have : ∀ m : Fin 9, m.val ∈ sizesL ∧ sizesL.idxOf m.val = m.val := by decide +kernel
  exact this ⟨n, by omega⟩
/-- the number that tells the code -/
def sizeI (f : Fr) : Int := if f.re then f.sz else (f.dt.length : Int)
theorem code_idx {f : Fr} (hE : frE f = 0) : idxI sizesI (sizeI f) = (codeN f : Int) ∧ codeN f < 2 ^ 4 := by
  obtain ⟨-, -, e3, e4, e5, e6, e7, e8, e9⟩ := frE_ok hE
  unfold sizeI codeN
  cases hre : f.re
  · exact idx_sizes e9
  · have h := sizes_low f.sz.toNat (by omega)
    have h2 := idx_sizes h.1
    rw [h.2] at h2
    simp only [if_true]
    rw [show ((f.sz.toNat : Nat) : Int) = f.sz by omega] at h2
    exact ⟨by rw [h2.1]; omega, h2.2⟩
theorem FrAt.regrown {w : World} {g : Nat} {id : Int} {lo fa re : Bool} {sz : Int} {a : Option Addr} {len cap : Nat} (h : FrAt w g id lo fa re sz a len cap) (d : Nat) (os : Array Obj) : FrAt (grow (redrawn w d) os) g id lo fa re sz a len cap :=
  ⟨cell_regrown h.c0 d os, cell_regrown h.c1 d os, cell_regrown h.c2 d os, cell_regrown h.c3 d os, cell_regrown h.c4 d os, cell_regrown h.c5 d os⟩

set_option maxHeartbeats 8000000 in
theorem head_any (f : Fr) (a : Option Addr) (len cap : Nat) (w : World) (hS : SizesAt w) (hE : frE f = 0) (hr : IsBytes w a len cap f.dt) :
    Calls Tryd.prog 29 #[frameV f.id f.lo f.fa f.re f.sz a len cap] w fun e w' => e = .returned (.string ⟨(headL f).toArray⟩) ∧ Below w.heap.size w w' := by
  obtain ⟨e1, e2, e3, e4, e5, e6, e7, e8, e9⟩ := frE_ok hE
  have hdl : f.dt.length = len := hr.1
  obtain ⟨hix, hcode⟩ := code_idx hE
  have hB := below_box w f.id f.lo f.fa f.re f.sz a len cap
  have hK := FrAt.box w f.id f.lo f.fa f.re f.sz a len cap
  unfold frameC at hB hK
  have hnm := fun W => name_any f a len cap W e1 e2
  have hfm := fun W => form_any f a len cap W
  unfold frameV at hnm hfm ⊢
  have hco := fun W hW => codeOf_any (sizeI f) W hW
  rw [hix] at hco
  have hro := fun W => row_ok (codeN f) 4 W (by omega) hcode
  have hof := fun W hB => of_any a len cap f.dt W (by omega) hB
  have hNl := mk_list (nameL f)
  have hNs := nameL_len f
  have hMl := mk_list (midL f)
  have hMs := midL_len f
  have hRl := mk_list (bitsHead (codeN f) 4 4)
  have hOl := mk_list (ofL f.dt)
  have hOs : (ofL f.dt).length ≤ 512 := by rw [ofL_length]; omega
  have hfin : headL f = [48] ++ nameL f ++ midL f ++ bitsHead (codeN f) 4 4 ++ ofL f.dt := rfl
  generalize ByteArray.mk (nameL f).toArray = NM at *
  generalize ByteArray.mk (midL f).toArray = MD at *
  generalize ByteArray.mk (bitsHead (codeN f) 4 4).toArray = CD at *
  generalize ByteArray.mk (ofL f.dt).toArray = OF at *
  have z1 : NM.size ≤ 32 := by rw [ba_size hNl, hNs]; split <;> omega
  have z2 : MD.size ≤ 4 := by rw [ba_size hMl]; omega
  have z3 : CD.size ≤ 4 := by rw [ba_size hRl, bitsHead_length]; exact Nat.le_refl _
  have z4 : OF.size ≤ 512 := by rw [ba_size hOl]; exact hOs
  have HS := Hid.mk (hS.kept hB)
  have HBY := Hid.mk (isBytes_below hr hB)
  have HNM := Hid.mk hnm
  have HFM := Hid.mk hfm
  have HCO := Hid.mk hco
  have HRO := Hid.mk hro
  have HOF := Hid.mk hof
  have HK := Hid.mk hK
  have HFIN := Hid.mk hfin
  have HL := Hid.mk (And.intro hNl (And.intro hMl (And.intro hRl hOl)))
  have hlen : (len : Int) ≤ 64 := by omega
  have hsi : sizeI f = if f.re then f.sz else (len : Int) := by unfold sizeI; rw [hdl]
  have HSI := Hid.mk hsi
  clear hS hr hnm hfm hco hro hof hNl hNs hMl hMs hRl hOl hOs hfin hK e1 e2 e3 e4 e5 e6 e7 e8 e9 hE hix hcode hdl hsi
  generalize codeN f = cn at *
  generalize sizeI f = si at *
  cases hre : f.re
  all_goals
    rw [hre] at HNM HFM HK hB HSI HS HBY
    have hsi := HSI.out
    simp only [Bool.false_eq_true, if_false, if_true] at hsi
    subst hsi
    go_enter Tryd.func29, Tryd.ntmps29
    go_wp2_with fail
    refine (HCO.out _ HS.out).mono ?_
    rintro e w1 ⟨rfl, hw1⟩
    subst hw1
    go_wp2_with fail
    refine (HRO.out _).mono ?_
    rintro e w2 ⟨rfl, hb2⟩
    have hbel2 := bl2 hB hb2
    have HBY2 := Hid.mk (isBytes_below HBY.out hb2)
    have HK2 := Hid.mk (HK.out.kept hb2)
    have k5 := HK2.out.c5
    clear hB hb2 HBY HK HCO HRO HS
    go_wp2_with fail
    refine (HOF.out _ HBY2.out).mono ?_
    rintro e w3 ⟨rfl, hb3⟩
    have hbel3 := bl2 hbel2 hb3
    have HK3 := Hid.mk (HK2.out.kept hb3)
    clear hbel2 hb3 HBY2 HK2 k5 HOF
    have r0 := fun d os => (HK3.out.regrown d os).c0
    have r1 := fun d os => (HK3.out.regrown d os).c1
    have r2 := fun d os => (HK3.out.regrown d os).c2
    have r3 := fun d os => (HK3.out.regrown d os).c3
    have r4 := fun d os => (HK3.out.regrown d os).c4
    have r5 := fun d os => (HK3.out.regrown d os).c5
    go_wp2_with fail
    refine wp_region_quiet_below (by kernel_rfl) (by kernel_rfl) ?_
    set_option maxRecDepth 100000 in
    repeat (go_big_quiet_step (first
      | (go_at_call 41; exact Calls.regrown_of (HNM.out _))
      | (go_at_call 52; exact Calls.regrown_of (HFM.out _))))
    refine wpQuiet_nil ?_
    intro _ hw'
    obtain ⟨⟨dq, osq⟩, hw''⟩ := hw'
    subst hw''
    have hbq := bl2 hbel3 (below_regrown w3 dq osq)
    clear r0 r1 r2 r3 r4 r5 hbel3
    go_wp2_with fail
    go_ret
    obtain ⟨l1, l2, l3, l4⟩ := HL.out
    exact ⟨ret_str1 (by rw [HFIN.out, ba_cat, ba_cat, ba_cat, ba_cat, l1, l2, l3, l4]), hbq⟩
end Bw
end Go.Proofs.YthdhhmflfdbkhaaDoor

/- Contracts of Go's library that the kit proves once, laid at this program: no walk, one application each. -/
namespace Go.Proofs
open Go.Shelf
def Tryd.lays138_ren : Go.Shelf.Ren := ⟨fun | 138 => 77 | 195 => 90 | 218 => 91 | 143 => 92 | 219 => 101 | 217 => 104 | 225 => 105 | 224 => 106 | 267 => 107 | 266 => 108 | 314 => 109 | n => n, fun | 9 => 9 | 3 => 3 | 4 => 4 | 5 => 5 | 0 => 0 | 46 => 94 | 146 => 130 | 51 => 129 | n => n, fun | 1 => 3 | n => n⟩
theorem Tryd.lays138 : Go.Proofs.Lays.n138 Tryd.prog Tryd.lays138_ren := {
  mixed := by kernel_rfl
  f138 := Tryd.func77.trans (congrArg some (by kernel_rfl))
  f143 := Tryd.func92.trans (congrArg some (by kernel_rfl))
  f195 := Tryd.func90.trans (congrArg some (by kernel_rfl))
  f217 := Tryd.func104.trans (congrArg some (by kernel_rfl))
  f218 := Tryd.func91.trans (congrArg some (by kernel_rfl))
  f219 := Tryd.func101.trans (congrArg some (by kernel_rfl))
  f224 := Tryd.func106.trans (congrArg some (by kernel_rfl))
  f225 := Tryd.func105.trans (congrArg some (by kernel_rfl))
  f266 := Tryd.func108.trans (congrArg some (by kernel_rfl))
  f267 := Tryd.func107.trans (congrArg some (by kernel_rfl))
  f314 := Tryd.func109.trans (congrArg some (by kernel_rfl))
  t0 := Tryd.underlying0
  a0 := Tryd.isAgg0
  z0 := Tryd.sizeOf0
  v0 := Tryd.zeroValue0
  t3 := Tryd.underlying3
  a3 := Tryd.isAgg3
  z3 := Tryd.sizeOf3
  v3 := Tryd.zeroValue3
  t4 := Tryd.underlying4
  a4 := Tryd.isAgg4
  z4 := Tryd.sizeOf4
  v4 := Tryd.zeroValue4
  t5 := Tryd.underlying5
  a5 := Tryd.isAgg5
  z5 := Tryd.sizeOf5
  v5 := Tryd.zeroValue5
  t9 := Tryd.underlying9
  a9 := Tryd.isAgg9
  z9 := Tryd.sizeOf9
  v9 := Tryd.zeroValue9
  t46 := Tryd.underlying94
  a46 := Tryd.isAgg94
  z46 := Tryd.sizeOf94
  v46 := Tryd.zeroValue94
  t51 := Tryd.underlying129
  a51 := Tryd.isAgg129
  z51 := Tryd.sizeOf129
  v51 := Tryd.zeroValue129
  t146 := Tryd.underlying130
  a146 := Tryd.isAgg130
  z146 := Tryd.sizeOf130
  v146 := Tryd.zeroValue130
  g1 := by kernel_rfl }
open Go.RowKit Go.Lib in
theorem Tryd.strings_Count_one (s : ByteArray) (c : UInt8) (w : World) :
    Calls Tryd.prog 77 #[.string s, .string ⟨#[c]⟩] w fun e w' => e = .returned (.int .i64 (Lib.countByte s.data.toList c)) ∧ w' = w := Any.strings_Count_one Tryd.lays138 s c w
end Go.Proofs

/- What frame.countOf answers. -/
namespace Go.Proofs.YthdhhmflfdbkhaaDoor
open Go.ChangeShapes Go.WideShapes Go.ChangeAt Go.RowKit
namespace Bw
open Bm Cm

set_option maxHeartbeats 1000000 in
theorem count_0 (p : Nat) (w : World) (h : (p : Int).tmod 8 = 0) :
    Calls Tryd.prog 57 #[.int .i64 p] w fun e w' => e = .returned (.string ⟨(grayL 0).toArray⟩) ∧ Below w.heap.size w w' := by
  have hx : bits .xor .i64 0 0 = 0 := by decide
  have hr := fun W => row_ok 0 3 W (by omega) (by omega)
  have hl : (bitsHead 0 3 3).toArray = #[48, 48, 48] := by decide
  rw [hl] at hr
  have hcn := fun W => Tryd.strings_Count_one ⟨#[48, 48, 48]⟩ 49 W
  have hc2 : Lib.countByte (ByteArray.mk #[48, 48, 48]).data.toList 49 = 0 := by decide
  rw [hc2] at hcn
  have HR := Hid.mk hr
  have HC := Hid.mk hcn
  clear hr hcn hc2 hl
  go_enter Tryd.func57, Tryd.ntmps57
  go_wp2_with fail
  try rw [hx]
  refine (HR.out _).mono ?_
  rintro e w1 ⟨rfl, hb1⟩
  clear HR
  go_wp2_with fail
  refine (HC.out _).mono ?_
  rintro e w2 ⟨rfl, hw⟩
  subst hw
  go_wp2_with fail
  refine (frBit_any false _).mono ?_
  rintro e w3 ⟨rfl, hw⟩
  subst hw
  go_wp2_with fail
  go_ret
  exact ⟨rfl, hb1⟩
set_option maxHeartbeats 1000000 in
theorem count_1 (p : Nat) (w : World) (h : (p : Int).tmod 8 = 1) :
    Calls Tryd.prog 57 #[.int .i64 p] w fun e w' => e = .returned (.string ⟨(grayL 1).toArray⟩) ∧ Below w.heap.size w w' := by
  have hx : bits .xor .i64 1 0 = 1 := by decide
  have hr := fun W => row_ok 1 3 W (by omega) (by omega)
  have hl : (bitsHead 1 3 3).toArray = #[48, 48, 49] := by decide
  rw [hl] at hr
  have hcn := fun W => Tryd.strings_Count_one ⟨#[48, 48, 49]⟩ 49 W
  have hc2 : Lib.countByte (ByteArray.mk #[48, 48, 49]).data.toList 49 = 1 := by decide
  rw [hc2] at hcn
  have HR := Hid.mk hr
  have HC := Hid.mk hcn
  clear hr hcn hc2 hl
  go_enter Tryd.func57, Tryd.ntmps57
  go_wp2_with fail
  try rw [hx]
  refine (HR.out _).mono ?_
  rintro e w1 ⟨rfl, hb1⟩
  clear HR
  go_wp2_with fail
  refine (HC.out _).mono ?_
  rintro e w2 ⟨rfl, hw⟩
  subst hw
  go_wp2_with fail
  refine (frBit_any true _).mono ?_
  rintro e w3 ⟨rfl, hw⟩
  subst hw
  go_wp2_with fail
  go_ret
  exact ⟨rfl, hb1⟩
set_option maxHeartbeats 1000000 in
theorem count_2 (p : Nat) (w : World) (h : (p : Int).tmod 8 = 2) :
    Calls Tryd.prog 57 #[.int .i64 p] w fun e w' => e = .returned (.string ⟨(grayL 2).toArray⟩) ∧ Below w.heap.size w w' := by
  have hx : bits .xor .i64 2 1 = 3 := by decide
  have hr := fun W => row_ok 3 3 W (by omega) (by omega)
  have hl : (bitsHead 3 3 3).toArray = #[48, 49, 49] := by decide
  rw [hl] at hr
  have hcn := fun W => Tryd.strings_Count_one ⟨#[48, 49, 49]⟩ 49 W
  have hc2 : Lib.countByte (ByteArray.mk #[48, 49, 49]).data.toList 49 = 2 := by decide
  rw [hc2] at hcn
  have HR := Hid.mk hr
  have HC := Hid.mk hcn
  clear hr hcn hc2 hl
  go_enter Tryd.func57, Tryd.ntmps57
  go_wp2_with fail
  try rw [hx]
  refine (HR.out _).mono ?_
  rintro e w1 ⟨rfl, hb1⟩
  clear HR
  go_wp2_with fail
  refine (HC.out _).mono ?_
  rintro e w2 ⟨rfl, hw⟩
  subst hw
  go_wp2_with fail
  refine (frBit_any false _).mono ?_
  rintro e w3 ⟨rfl, hw⟩
  subst hw
  go_wp2_with fail
  go_ret
  exact ⟨rfl, hb1⟩
set_option maxHeartbeats 1000000 in
theorem count_3 (p : Nat) (w : World) (h : (p : Int).tmod 8 = 3) :
    Calls Tryd.prog 57 #[.int .i64 p] w fun e w' => e = .returned (.string ⟨(grayL 3).toArray⟩) ∧ Below w.heap.size w w' := by
  have hx : bits .xor .i64 3 1 = 2 := by decide
  have hr := fun W => row_ok 2 3 W (by omega) (by omega)
  have hl : (bitsHead 2 3 3).toArray = #[48, 49, 48] := by decide
  rw [hl] at hr
  have hcn := fun W => Tryd.strings_Count_one ⟨#[48, 49, 48]⟩ 49 W
  have hc2 : Lib.countByte (ByteArray.mk #[48, 49, 48]).data.toList 49 = 1 := by decide
  rw [hc2] at hcn
  have HR := Hid.mk hr
  have HC := Hid.mk hcn
  clear hr hcn hc2 hl
  go_enter Tryd.func57, Tryd.ntmps57
  go_wp2_with fail
  try rw [hx]
  refine (HR.out _).mono ?_
  rintro e w1 ⟨rfl, hb1⟩
  clear HR
  go_wp2_with fail
  refine (HC.out _).mono ?_
  rintro e w2 ⟨rfl, hw⟩
  subst hw
  go_wp2_with fail
  refine (frBit_any true _).mono ?_
  rintro e w3 ⟨rfl, hw⟩
  subst hw
  go_wp2_with fail
  go_ret
  exact ⟨rfl, hb1⟩
set_option maxHeartbeats 1000000 in
theorem count_4 (p : Nat) (w : World) (h : (p : Int).tmod 8 = 4) :
    Calls Tryd.prog 57 #[.int .i64 p] w fun e w' => e = .returned (.string ⟨(grayL 4).toArray⟩) ∧ Below w.heap.size w w' := by
  have hx : bits .xor .i64 4 2 = 6 := by decide
  have hr := fun W => row_ok 6 3 W (by omega) (by omega)
  have hl : (bitsHead 6 3 3).toArray = #[49, 49, 48] := by decide
  rw [hl] at hr
  have hcn := fun W => Tryd.strings_Count_one ⟨#[49, 49, 48]⟩ 49 W
  have hc2 : Lib.countByte (ByteArray.mk #[49, 49, 48]).data.toList 49 = 2 := by decide
  rw [hc2] at hcn
  have HR := Hid.mk hr
  have HC := Hid.mk hcn
  clear hr hcn hc2 hl
  go_enter Tryd.func57, Tryd.ntmps57
  go_wp2_with fail
  try rw [hx]
  refine (HR.out _).mono ?_
  rintro e w1 ⟨rfl, hb1⟩
  clear HR
  go_wp2_with fail
  refine (HC.out _).mono ?_
  rintro e w2 ⟨rfl, hw⟩
  subst hw
  go_wp2_with fail
  refine (frBit_any false _).mono ?_
  rintro e w3 ⟨rfl, hw⟩
  subst hw
  go_wp2_with fail
  go_ret
  exact ⟨rfl, hb1⟩
set_option maxHeartbeats 1000000 in
theorem count_5 (p : Nat) (w : World) (h : (p : Int).tmod 8 = 5) :
    Calls Tryd.prog 57 #[.int .i64 p] w fun e w' => e = .returned (.string ⟨(grayL 5).toArray⟩) ∧ Below w.heap.size w w' := by
  have hx : bits .xor .i64 5 2 = 7 := by decide
  have hr := fun W => row_ok 7 3 W (by omega) (by omega)
  have hl : (bitsHead 7 3 3).toArray = #[49, 49, 49] := by decide
  rw [hl] at hr
  have hcn := fun W => Tryd.strings_Count_one ⟨#[49, 49, 49]⟩ 49 W
  have hc2 : Lib.countByte (ByteArray.mk #[49, 49, 49]).data.toList 49 = 3 := by decide
  rw [hc2] at hcn
  have HR := Hid.mk hr
  have HC := Hid.mk hcn
  clear hr hcn hc2 hl
  go_enter Tryd.func57, Tryd.ntmps57
  go_wp2_with fail
  try rw [hx]
  refine (HR.out _).mono ?_
  rintro e w1 ⟨rfl, hb1⟩
  clear HR
  go_wp2_with fail
  refine (HC.out _).mono ?_
  rintro e w2 ⟨rfl, hw⟩
  subst hw
  go_wp2_with fail
  refine (frBit_any true _).mono ?_
  rintro e w3 ⟨rfl, hw⟩
  subst hw
  go_wp2_with fail
  go_ret
  exact ⟨rfl, hb1⟩
set_option maxHeartbeats 1000000 in
theorem count_6 (p : Nat) (w : World) (h : (p : Int).tmod 8 = 6) :
    Calls Tryd.prog 57 #[.int .i64 p] w fun e w' => e = .returned (.string ⟨(grayL 6).toArray⟩) ∧ Below w.heap.size w w' := by
  have hx : bits .xor .i64 6 3 = 5 := by decide
  have hr := fun W => row_ok 5 3 W (by omega) (by omega)
  have hl : (bitsHead 5 3 3).toArray = #[49, 48, 49] := by decide
  rw [hl] at hr
  have hcn := fun W => Tryd.strings_Count_one ⟨#[49, 48, 49]⟩ 49 W
  have hc2 : Lib.countByte (ByteArray.mk #[49, 48, 49]).data.toList 49 = 2 := by decide
  rw [hc2] at hcn
  have HR := Hid.mk hr
  have HC := Hid.mk hcn
  clear hr hcn hc2 hl
  go_enter Tryd.func57, Tryd.ntmps57
  go_wp2_with fail
  try rw [hx]
  refine (HR.out _).mono ?_
  rintro e w1 ⟨rfl, hb1⟩
  clear HR
  go_wp2_with fail
  refine (HC.out _).mono ?_
  rintro e w2 ⟨rfl, hw⟩
  subst hw
  go_wp2_with fail
  refine (frBit_any false _).mono ?_
  rintro e w3 ⟨rfl, hw⟩
  subst hw
  go_wp2_with fail
  go_ret
  exact ⟨rfl, hb1⟩
set_option maxHeartbeats 1000000 in
theorem count_7 (p : Nat) (w : World) (h : (p : Int).tmod 8 = 7) :
    Calls Tryd.prog 57 #[.int .i64 p] w fun e w' => e = .returned (.string ⟨(grayL 7).toArray⟩) ∧ Below w.heap.size w w' := by
  have hx : bits .xor .i64 7 3 = 4 := by decide
  have hr := fun W => row_ok 4 3 W (by omega) (by omega)
  have hl : (bitsHead 4 3 3).toArray = #[49, 48, 48] := by decide
  rw [hl] at hr
  have hcn := fun W => Tryd.strings_Count_one ⟨#[49, 48, 48]⟩ 49 W
  have hc2 : Lib.countByte (ByteArray.mk #[49, 48, 48]).data.toList 49 = 1 := by decide
  rw [hc2] at hcn
  have HR := Hid.mk hr
  have HC := Hid.mk hcn
  clear hr hcn hc2 hl
  go_enter Tryd.func57, Tryd.ntmps57
  go_wp2_with fail
  try rw [hx]
  refine (HR.out _).mono ?_
  rintro e w1 ⟨rfl, hb1⟩
  clear HR
  go_wp2_with fail
  refine (HC.out _).mono ?_
  rintro e w2 ⟨rfl, hw⟩
  subst hw
  go_wp2_with fail
  refine (frBit_any true _).mono ?_
  rintro e w3 ⟨rfl, hw⟩
  subst hw
  go_wp2_with fail
  go_ret
  exact ⟨rfl, hb1⟩
theorem countOf_any (p : Nat) (w : World) :
    Calls Tryd.prog 57 #[.int .i64 p] w fun e w' => e = .returned (.string ⟨(grayL (p % 8)).toArray⟩) ∧ Below w.heap.size w w' := by
  have hq : (p : Int).tmod 8 = ((p % 8 : Nat) : Int) := by rw [Int.tmod_eq_emod_of_nonneg (by omega)]; omega
  have hlt : p % 8 < 8 := Nat.mod_lt _ (by omega)
  generalize p % 8 = q at *
  match q, hlt with
  | 0, _ => exact count_0 p w hq
  | 1, _ => exact count_1 p w hq
  | 2, _ => exact count_2 p w hq
  | 3, _ => exact count_3 p w hq
  | 4, _ => exact count_4 p w hq
  | 5, _ => exact count_5 p w hq
  | 6, _ => exact count_6 p w hq
  | 7, _ => exact count_7 p w hq
  | n + 8, h => exact absurd h (by omega)
end Bw
end Go.Proofs.YthdhhmflfdbkhaaDoor

/- One step of the register as the program reckons it, in words of 64 bits. -/
namespace Go.Proofs.YthdhhmflfdbkhaaDoor.Cm
open Go Bm

theorem xor_i64 (a b : Nat) (ha : a < 2 ^ 62) (hb : b < 2 ^ 62) : bits .xor .i64 (a : Int) (b : Int) = ((a ^^^ b : Nat) : Int) := by
  have hx : a ^^^ b < 2 ^ 62 := Nat.xor_lt_two_pow ha hb
  have h1 : (BitVec.ofInt 64 (a : Int)).toNat = a := by
    rw [BitVec.ofInt_natCast, BitVec.toNat_ofNat]; exact Nat.mod_eq_of_lt (by omega)
  have h2 : (BitVec.ofInt 64 (b : Int)).toNat = b := by
    rw [BitVec.ofInt_natCast, BitVec.toNat_ofNat]; exact Nat.mod_eq_of_lt (by omega)
  show IntKind.i64.wrap ((BitVec.ofInt 64 (a : Int) ^^^ BitVec.ofInt 64 (b : Int)).toNat : Int) = _
  rw [BitVec.toNat_xor, h1, h2, IntKind.wrap_i64]
  omega
theorem two_pow_cast (s : Nat) : ((2 ^ s : Nat) : Int) = (2 : Int) ^ s := by simp
theorem pow_small (s : Nat) (h : s ≤ 21) : (1 : Int) ≤ 2 ^ s ∧ (2 : Int) ^ s ≤ 2097152 := by
  rw [← two_pow_cast]
  have h1 : 2 ^ s ≤ 2 ^ 21 := Nat.pow_le_pow_right (by omega) h
  have h2 := Nat.two_pow_pos s
  omega
theorem mask_i64 (n s : Nat) (hs : s ≤ 21) (hn : n < 2 ^ 62) : bits .and .i64 (n : Int) (2 ^ s - 1) = ((n % 2 ^ s : Nat) : Int) := by
  have := bits_mask .i64 62 (by decide) (fun n h0 h1 => by rw [IntKind.wrap_i64]; omega) s (by omega) (n : Int) (by omega) (by omega)
  rw [this]
  simp
theorem wrap_small (x : Int) (h0 : -9223372036854775808 ≤ x) (h1 : x < 9223372036854775808) : IntKind.i64.wrap x = x := by rw [IntKind.wrap_i64]; omega
/-- the bit that goes out at the left -/
theorem out_div (n s : Nat) (hs : 1 ≤ s) : 2 * n / 2 ^ s = n / 2 ^ (s - 1) := by
  obtain ⟨t, rfl⟩ : ∃ t, s = t + 1 := ⟨s - 1, by omega⟩
  rw [Nat.add_sub_cancel, Nat.pow_succ, Nat.mul_comm (2 ^ t) 2, Nat.mul_div_mul_left _ _ (by omega)]
theorem out_int (n s : Nat) (hs : 1 ≤ s) : (2 * (n : Int)) / 2 ^ s = ((n / 2 ^ (s - 1) : Nat) : Int) := by
  rw [← out_div n s hs]
  simp
theorem step_eq (s p n d : Nat) (h : n / 2 ^ (s - 1) = d) : crcStep s p n d = 2 * n % 2 ^ s := by
  unfold crcStep; rw [if_pos h, Nat.xor_zero]
theorem step_ne (s p n d : Nat) (h : n / 2 ^ (s - 1) ≠ d) : crcStep s p n d = 2 * n % 2 ^ s ^^^ p := by
  unfold crcStep; rw [if_neg h]
end Go.Proofs.YthdhhmflfdbkhaaDoor.Cm

/- What the method next of check.rule answers: one step of the register. -/
namespace Go.Proofs.YthdhhmflfdbkhaaDoor
open Go.ChangeShapes Go.WideShapes Go.ChangeAt Go.RowKit
namespace Bw
open Bm Cm

theorem mask_walk (n s : Nat) (hs : s ≤ 21) (hn : n ≤ 2097151) : bits .and .i64 ((n : Int) * 2) (wrap64 (wrap64 (2 ^ s) - 1)) = ((2 * n % 2 ^ s : Nat) : Int) := by
  obtain ⟨h1, h2⟩ := pow_small s hs
  have e1 : wrap64 (2 ^ s) = (2 : Int) ^ s := by unfold wrap64; omega
  have e2 : wrap64 ((2 : Int) ^ s - 1) = (2 : Int) ^ s - 1 := by unfold wrap64; omega
  rw [e1, e2]
  have e3 : (n : Int) * 2 = ((2 * n : Nat) : Int) := by omega
  rw [e3]
  exact mask_i64 (2 * n) s hs (by omega)
theorem out_walk (n s : Nat) (hs1 : 1 ≤ s) : (n : Int) * 2 / 2 ^ s = ((n / 2 ^ (s - 1) : Nat) : Int) := by
  rw [Int.mul_comm]; exact out_int n s hs1

set_option maxHeartbeats 1000000 in
theorem next_any (s p f en n d : Nat) (w : World) (hs1 : 1 ≤ s) (hs : s ≤ 21) (hp : p < 2 ^ s) (hn : n < 2 ^ s) :
    Calls Tryd.prog 76 #[.agg #[.int .i64 s, .int .i64 p, .int .i64 f, .int .i64 en], .int .i64 n, .int .i64 d] w fun e w' => e = .returned (.int .i64 (crcStep s p n d)) ∧ Below w.heap.size w w' := by
  have h21 : 2 ^ s ≤ 2 ^ 21 := Nat.pow_le_pow_right (by omega) hs
  have hnb : (n : Int) ≤ 2097151 := by omega
  have hpb : p ≤ 2097151 := by omega
  have hs1' : (1 : Int) ≤ (s : Int) := by omega
  have hs' : (s : Int) ≤ 21 := by omega
  have HM := Hid.mk (mask_walk n s hs (by omega))
  have HO := Hid.mk (out_walk n s hs1)
  have HB := Hid.mk (show 2 * n % 2 ^ s < 2 ^ s from Nat.mod_lt _ (Nat.two_pow_pos s))
  have HC := Hid.mk h21
  clear h21 hp hn
  by_cases hd : n / 2 ^ (s - 1) = d
  · have hc : ((n : Int) * 2 / 2 ^ s != (d : Int)) = false := by rw [HO.out, hd]; simp
    go_enter Tryd.func76, Tryd.ntmps76
    go_wp2_with fail
    go_ret
    exact ⟨by rw [HM.out, step_eq s p n d hd]; rfl, (Below.refl _ _).alloc (Nat.le_refl _) _⟩
  · have hc : ((n : Int) * 2 / 2 ^ s != (d : Int)) = true := by
      rw [HO.out, bne_iff_ne]
      intro h
      exact hd (by exact_mod_cast h)
    go_enter Tryd.func76, Tryd.ntmps76
    go_wp2_with fail
    go_ret
    refine ⟨?_, (Below.refl _ _).alloc (Nat.le_refl _) _⟩
    have h1 := HB.out
    have h2 := HC.out
    rw [HM.out, step_ne s p n d hd, xor_i64 _ _ (by omega) (by omega)]
    rfl
end Bw
end Go.Proofs.YthdhhmflfdbkhaaDoor

/- What check.sum answers of a row by one of the five kinds. -/
namespace Go.Proofs.YthdhhmflfdbkhaaDoor
open Go.ChangeShapes Go.WideShapes Go.ChangeAt Go.RowKit
namespace Bw
open Bm Cm

theorem new_cell (W : World) (cs : Array Value) (t : TypeId) (k g : Nat) (hg : g = W.heap.size) : (W.alloc (.cells cs t)).cell? ⟨g, k, none⟩ = cs[k]? := by
  subst hg
  exact cell_of_row _ _ k _ _ _ (heap_alloc_new W _)
theorem up_lt' {n a c : Nat} (h : n < 2 ^ a) (ha : a ≤ c) : n < 2 ^ c := Nat.lt_of_lt_of_le h (Nat.pow_le_pow_right (Nat.succ_pos 1) ha)
def rk (k : Nat) : Value := .agg #[.int .i64 (kS k), .int .i64 (kP k), .int .i64 (kF k), .int .i64 (kE k)]

set_option maxHeartbeats 4000000 in
theorem sumR_any (s p f en : Nat) (b : ByteArray) (w : World) (hs1 : 1 ≤ s) (hs : s ≤ 21) (hp : p < 2 ^ s) (hf : f < 2 ^ s) (he : en < 2 ^ s) (h1000 : b.size ≤ 1000) (hrow : rowB b.data.toList = true) :
    Calls Tryd.prog 54 #[.agg #[.int .i64 s, .int .i64 p, .int .i64 f, .int .i64 en], .string b] w fun e w' =>
      e = .returned (.tuple #[.string ⟨(bitsHead (crcR s p f b.data.toList ^^^ en) s s).toArray⟩, .int .i64 0]) ∧ Below w.heap.size w w' := by
  have hl : b.data.toList.length = b.size := by simp
  have HL := Hid.mk hl
  have HP := Hid.mk hp
  have HF := Hid.mk hf
  have HE := Hid.mk he
  have HR := Hid.mk hrow
  have hb1 : Below w.heap.size w (w.alloc (.cells #[.int .i64 s, .int .i64 p, .int .i64 f, .int .i64 en] 82)) := (Below.refl _ _).alloc (Nat.le_refl _) _
  have hnc := fun k => new_cell w #[.int .i64 s, .int .i64 p, .int .i64 f, .int .i64 en] 82 k w.heap.size rfl
  have HC := Hid.mk (And.intro (hnc 0) (And.intro (hnc 1) (And.intro (hnc 2) (hnc 3))))
  have HS := Hid.mk (show (w.alloc (.cells #[.int .i64 s, .int .i64 p, .int .i64 f, .int .i64 en] 82)).heap.size = w.heap.size + 1 by simp)
  clear hp hf he hrow hnc hl
  go_enter Tryd.func54, Tryd.ntmps54
  go_wp2_with fail
  generalize hW1 : w.alloc (.cells #[.int .i64 s, .int .i64 p, .int .i64 f, .int .i64 en] 82) = W1 at *
  clear hW1
  go_loopw [6, 12] (fun r i wr => ∃ j : Nat, j ≤ b.size ∧ i = .int .i64 j ∧ r = .int .i64 (crcR s p f (b.data.toList.take j)) ∧ Below W1.heap.size W1 wr) (fun _ i _ => b.size - (intOf i).toNat)
  case atStart => exact ⟨0, Nat.zero_le _, rfl, rfl, Below.refl _ _⟩
  case round =>
    obtain ⟨j, hj, rfl, rfl, hbel⟩ := hrel
    have k0 := cell_kept hbel HC.out.1
    have k1 := cell_kept hbel HC.out.2.1
    have k2 := cell_kept hbel HC.out.2.2.1
    have k3 := cell_kept hbel HC.out.2.2.2
    simp at k0 k1 k2 k3
    have HN := Hid.mk (crcR_lt s p f HP.out HF.out (b.data.toList.take j))
    by_cases hlt : j < b.size
    · have hbit := rowB_at HR.out j hlt
      have hd := (bit_dig hbit).2
      have hd1 := (bit_dig hbit).1
      have HT := Hid.mk (take_snoc b j hlt)
      have hbn := rowB_at' HR.out j hlt
      have hb48 : (48 : Int) ≤ (b[j].toNat : Int) := by omega
      have hb49 : (b[j].toNat : Int) ≤ 49 := by omega
      have HD : Hid (IntKind.i64.wrap (IntKind.u8.wrap ((b[j].toNat : Int) - 48)) = ((dig b[j] : Nat) : Int)) := by
        refine Hid.mk ?_
        rw [hd]
        have e1 : IntKind.u8.wrap ((b[j].toNat : Int) - 48) = (b[j].toNat : Int) - 48 := by simp [IntKind.wrap, IntKind.bits, IntKind.signed]; omega
        rw [e1, IntKind.wrap_i64]; omega
      clear hd hd1 hbit hbn
      go_wp2_with fail
      set_option maxRecDepth 100000 in
      go_region_with (go_at_call 76; rw [HD.out]; refine (next_any s p f en _ (dig b[j]) _ hs1 hs HP.out HN.out).mono ?_; rintro e w2 ⟨rfl, hb2⟩)
      all_goals focus
        have hbel2 : Below W1.heap.size W1 w2 := hbel.drew.trans (hb2.mono hbel.size)
        rw [← crcR_snoc, ← HT.out]
        clear hb2 hbel k0 k1 k2 k3 HD HN
        go_wp2_with fail
        go_roundw
        case rel => exact ⟨j + 1, by omega, by go_num, rfl, hbel2⟩
        case measure => simp [intOf]; omega
    · have e : j = b.size := by omega
      subst e
      rw [List.take_of_length_le (by rw [HL.out]; exact Nat.le_refl _)] at HN ⊢
      have hx := xor_i64 _ _ (up_lt' (c := 62) HN.out (by omega)) (up_lt' (c := 62) HE.out (by omega))
      have hr := row_ok (crcR s p f b.data.toList ^^^ en) s wr (by omega) (Nat.xor_lt_two_pow HN.out HE.out)
      have HX := Hid.mk hx
      have HRO := Hid.mk hr
      clear hx hr
      go_wp2_with fail
      rw [HX.out]
      refine HRO.out.mono ?_
      rintro e w2 ⟨rfl, hb2⟩
      go_wp2_with fail
      go_ret2
      exact ⟨rfl, hb1.trans ((hbel.trans (hb2.mono hbel.size)).mono hb1.size)⟩
end Bw
end Go.Proofs.YthdhhmflfdbkhaaDoor

/- What check.Sum answers, errors too, where the table of kinds lies as its initialiser lays it. -/
namespace Go.Proofs.YthdhhmflfdbkhaaDoor
open Go.ChangeShapes Go.WideShapes Go.ChangeAt Go.RowKit
namespace Bw
open Bm Cm

/-- the table of kinds, cell by cell -/
def RulesAt (w : World) : Prop := ∀ k, k ≤ 4 → w.cell? ⟨0, k * 4, none⟩ = some (.int .i64 (kS k)) ∧ w.cell? ⟨0, k * 4 + 1, none⟩ = some (.int .i64 (kP k)) ∧ w.cell? ⟨0, k * 4 + 2, none⟩ = some (.int .i64 (kF k)) ∧ w.cell? ⟨0, k * 4 + 3, none⟩ = some (.int .i64 (kE k))
theorem RulesAt.kept {w w' : World} (h : RulesAt w) (hb : Below w.heap.size w w') : RulesAt w' := fun k hk =>
  ⟨cell_kept hb (h k hk).1, cell_kept hb (h k hk).2.1, cell_kept hb (h k hk).2.2.1, cell_kept hb (h k hk).2.2.2⟩

set_option maxHeartbeats 1000000 in
theorem isKind_any (k : Int) (w : World) :
    Calls Tryd.prog 53 #[.int .i64 k] w fun e w' => e = .returned (.bool (decide (0 ≤ k) && decide (k < 5))) ∧ w' = w := by
  by_cases h : 0 ≤ k
  · have h0 : decide (k ≥ 0) = true := by simpa using h
    have h0' : decide (0 ≤ k) = true := by simpa using h
    go_enter Tryd.func53, Tryd.ntmps53
    go_wp2_with fail
    go_ret
    exact ⟨by first | rfl | (rw [h0']; rfl), rfl⟩
  · have h0 : decide (k ≥ 0) = false := by simpa using h
    have h0' : decide (0 ≤ k) = false := by simpa using h
    go_enter Tryd.func53, Tryd.ntmps53
    go_wp2_with fail
    go_ret
    exact ⟨by first | rfl | (rw [h0']; rfl), rfl⟩
theorem isKind_yes (k : Nat) (w : World) (hk : k ≤ 4) : Calls Tryd.prog 53 #[.int .i64 k] w fun e w' => e = .returned (.bool true) ∧ w' = w :=
  (isKind_any k w).mono fun e w' ⟨h1, h2⟩ => ⟨by
    have a : decide ((0 : Int) ≤ (k : Int)) = true := by simp
    have b : decide ((k : Int) < 5) = true := by simp; omega
    rw [h1, a, b]; rfl, h2⟩
theorem isKind_no (k : Int) (w : World) (hk : k < 0 ∨ 4 < k) : Calls Tryd.prog 53 #[.int .i64 k] w fun e w' => e = .returned (.bool false) ∧ w' = w :=
  (isKind_any k w).mono fun e w' ⟨h1, h2⟩ => ⟨by
    have : (decide ((0 : Int) ≤ k) && decide (k < 5)) = false := by
      rcases hk with h | h
      · have : decide ((0 : Int) ≤ k) = false := by simpa using h
        rw [this]; rfl
      · have : decide (k < 5) = false := by simp; omega
        rw [this]; simp
    rw [h1, this], h2⟩

set_option maxHeartbeats 2000000 in
theorem sum_bad (k : Int) (b : ByteArray) (w : World) (hb : b.size ≤ maxLen) (hc : checkE b.data.toList ≠ 0) :
    Calls Tryd.prog 30 #[.int .i64 k, .string b] w fun e w' => e = .returned (.tuple #[.string ⟨#[]⟩, .int .i64 (checkE b.data.toList)]) ∧ Below w.heap.size w w' := by
  have h1 := check_any b w hb
  have hne : (checkE b.data.toList != 0) = true := by simpa using hc
  generalize checkE b.data.toList = ce at *
  go_enter Tryd.func30, Tryd.ntmps30
  go_wp2_with fail
  refine h1.mono ?_
  rintro e w1 ⟨rfl, hb1⟩
  go_wp2_with fail
  go_ret2
  exact ⟨rfl, hb1⟩
set_option maxHeartbeats 2000000 in
theorem sum_who (k : Int) (b : ByteArray) (w : World) (hb : b.size ≤ maxLen) (hc : checkE b.data.toList = 0) (hk : k < 0 ∨ 4 < k) :
    Calls Tryd.prog 30 #[.int .i64 k, .string b] w fun e w' => e = .returned (.tuple #[.string ⟨#[]⟩, .int .i64 8]) ∧ Below w.heap.size w w' := by
  have h1 := check_any b w hb
  rw [hc] at h1
  have HK := Hid.mk hk
  clear hk hc
  go_enter Tryd.func30, Tryd.ntmps30
  go_wp2_with fail
  refine h1.mono ?_
  rintro e w1 ⟨rfl, hb1⟩
  clear h1
  go_wp2_with fail
  refine (isKind_no k w1 HK.out).mono ?_
  rintro e w2 ⟨rfl, hw2⟩
  subst hw2
  go_wp2_with fail
  go_ret2
  exact ⟨rfl, hb1⟩
set_option maxHeartbeats 2000000 in
theorem sum_ok (k : Nat) (b : ByteArray) (w : World) (hR : RulesAt w) (hc : checkE b.data.toList = 0) (hk : k ≤ 4) :
    Calls Tryd.prog 30 #[.int .i64 k, .string b] w fun e w' => e = .returned (.tuple #[.string ⟨(sumL k b.data.toList).toArray⟩, .int .i64 0]) ∧ Below w.heap.size w w' := by
  obtain ⟨h1000, hrow⟩ := small_of_check hc
  have h1 := check_any b w (by unfold maxLen; omega)
  rw [hc] at h1
  obtain ⟨s8, s21, p1, hp, hf, he, _⟩ := kinds_ok k hk
  have h2 := fun W => sumR_any (kS k) (kP k) (kF k) (kE k) b W (by omega) s21 hp hf he h1000 hrow
  have H2 := Hid.mk h2
  have H3 := Hid.mk hR
  have hk' : (k : Int) < 5 := by omega
  clear hR hc hp hf he hrow h2
  go_enter Tryd.func30, Tryd.ntmps30
  go_wp2_with fail
  refine h1.mono ?_
  rintro e w1 ⟨rfl, hb1⟩
  clear h1
  obtain ⟨c0, c1, c2, c3⟩ := H3.out.kept hb1 k hk
  go_wp2_with fail
  refine (isKind_yes k w1 hk).mono ?_
  rintro e w2 ⟨rfl, hw2⟩
  subst hw2
  go_wp2_with fail
  refine (H2.out _).mono ?_
  rintro e w3 ⟨rfl, hb3⟩
  go_wp2_with fail
  go_ret2
  exact ⟨rfl, bl2 hb1 hb3⟩

end Bw
end Go.Proofs.YthdhhmflfdbkhaaDoor
