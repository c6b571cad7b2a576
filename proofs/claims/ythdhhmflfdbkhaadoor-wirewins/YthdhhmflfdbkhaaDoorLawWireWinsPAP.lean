/- Joined out of our texts: WFirst, WwinsM, EqualN, Wired, FrSame, SizesRow, RulesRow. -/
import Derived.Test.YthdhhmflfdbkhaaDoorLawWireWinsPAO
import Derived.Test.YthdhhmflfdbkhaaDoorLawWireWinsPAJ
import Derived.Test.YthdhhmflfdbkhaaDoorLawWireWinsPAE
import Derived.Test.YthdhhmflfdbkhaaDoorLawWireWinsPAF
import Derived.Test.YthdhhmflfdbkhaaDoorRows
import Derived.Lib.LaidU8
import Derived.Test.YthdhhmflfdbkhaaDoorLawWireWinsPAH
/- What wire.First answers of any frames. -/
namespace Go.Proofs.YthdhhmflfdbkhaaDoor
open Go.ChangeShapes Go.WideShapes Go.ChangeAt Go.RowKit
namespace Bw
open Bm Cm
/-- the names of frames -/
def namesL (l : List FrV) : List (List UInt8) := l.map fun v => nameL v.f
/-- the error that First tells -/
def firstE (l : List FrV) : Int := if 6 < l.length then 2 else if firE (l.map (·.f)) ≠ 0 then firE (l.map (·.f)) else if l.length = 0 then 8 else onlyE (namesL l) (minL (namesL l))
set_option maxHeartbeats 2000000 in
theorem first_many (a : Option Addr) (n cap : Nat) (w : World) (h : 6 < n) :
    Calls Tryd.prog 6 #[.slice a n cap] w fun e w' => e = .returned (.tuple #[.int .i64 0, .int .i64 2]) ∧ w' = w := by
  have h2 : (6 : Int) < (n : Int) := by omega
  go_enter Tryd.func6, Tryd.ntmps6
  go_wp2_with fail
  go_ret2
  exact ⟨rfl, rfl⟩
set_option maxHeartbeats 2000000 in
theorem first_bad (a : Option Addr) (n cap : Nat) (l : List FrV) (w : World) (hS : SizesAt w) (hF : IsFrames w a n cap l) (h6 : n ≤ 6) (hz : firE (l.map (·.f)) ≠ 0) :
    Calls Tryd.prog 6 #[.slice a n cap] w fun e w' => e = .returned (.tuple #[.int .i64 0, .int .i64 (firE (l.map (·.f)))]) ∧ Below w.heap.size w w' := by
  have ha := (eachName_any a n cap l w hS hF h6).mono (fun _ _ h => And.intro (h.1 hz) h.2.2)
  have HE := Hid.mk ha
  have hne : (firE (l.map (·.f)) != 0) = true := by simpa using hz
  have h6' : (n : Int) ≤ 6 := by omega
  generalize firE (l.map (·.f)) = ce at *
  clear ha hS hF hz
  go_enter Tryd.func6, Tryd.ntmps6
  go_wp2_with fail
  refine HE.out.mono ?_
  rintro e w1 ⟨rfl, hb1⟩
  go_wp2_with fail
  go_ret2
  exact ⟨rfl, hb1⟩
set_option maxHeartbeats 2000000 in
theorem first_none (a : Option Addr) (n cap : Nat) (l : List FrV) (w : World) (hS : SizesAt w) (hF : IsFrames w a n cap l) (h0 : n = 0) :
    Calls Tryd.prog 6 #[.slice a n cap] w fun e w' => e = .returned (.tuple #[.int .i64 0, .int .i64 8]) ∧ Below w.heap.size w w' := by
  subst h0
  have hz : firE (l.map (·.f)) = 0 := by
    have : l = [] := List.eq_nil_of_length_eq_zero hF.len
    subst this; rfl
  have ha := (eachName_any a 0 cap l w hS hF (by omega)).mono (fun _ _ h => And.intro (h.2.1 hz) h.2.2)
  have HE := Hid.mk ha
  clear ha hS hF hz
  go_enter Tryd.func6, Tryd.ntmps6
  go_wp2_with fail
  refine HE.out.mono ?_
  rintro e w1 ⟨⟨rv, rfl, hown⟩, hb1⟩
  obtain ⟨ra, rc, rfl⟩ := owns_slice hown
  clear hown
  go_wp2_with fail
  go_ret2
  exact ⟨rfl, hb1⟩
theorem owns_room {w : World} {base : Nat} {e : TypeId} {size : Nat} {v : Value} {n : Nat} {xs : List Value} (h : w.ownsRow base e size v n xs) (h0 : 0 < n) : ∃ g cap, v = .slice (some ⟨g, 0, none⟩) n cap ∧ n ≤ cap := by
  rcases h.2 with ⟨rfl, rfl⟩ | ⟨g, cap, cur, rfl, _, _, hc, -⟩
  · omega
  · exact ⟨_, _, rfl, hc⟩
set_option maxHeartbeats 4000000 in
theorem first_ok (a : Option Addr) (n cap : Nat) (l : List FrV) (w : World) (hS : SizesAt w) (hF : IsFrames w a n cap l) (h0 : 0 < n) (h6 : n ≤ 6) (hz : firE (l.map (·.f)) = 0) :
    Calls Tryd.prog 6 #[.slice a n cap] w fun e w' => e = .returned (.tuple #[.int .i64 (onlyN (namesL l) (minL (namesL l))), .int .i64 (onlyE (namesL l) (minL (namesL l)))]) ∧ Below w.heap.size w w' := by
  have hrl : (namesL l).length = n := by rw [namesL, List.length_map, hF.len]
  have ha := (eachName_any a n cap l w hS hF h6).mono (fun _ _ h => And.intro (h.2.1 hz) h.2.2)
  have hm := fun g c W hX => minS_any g n c (namesL l) W hrl h0 (by omega) hX
  have ho := fun g c W hc hX => onlyT_any g n c (namesL l) (minL (namesL l)) W hrl h6 hc hX
  have HRO := Hid.mk (show strC (l.map fun v => nameL v.f) = strC (namesL l) from rfl)
  generalize onlyN (namesL l) (minL (namesL l)) = oN at *
  generalize onlyE (namesL l) (minL (namesL l)) = oE at *
  generalize ByteArray.mk (minL (namesL l)).toArray = BT at *
  have h0' : ((n : Int) == 0) = false := by rw [beq_eq_false_iff_ne]; omega
  have h6' : (n : Int) ≤ 6 := by omega
  have HE := Hid.mk ha
  have HM := Hid.mk hm
  have HO := Hid.mk ho
  clear ha hm ho hS hF hz hrl
  go_enter Tryd.func6, Tryd.ntmps6
  go_wp2_with fail
  refine HE.out.mono ?_
  rintro e w1 ⟨⟨rv, rfl, hown⟩, hb1⟩
  rw [HRO.out] at hown
  obtain ⟨gr, cr, rfl, hnc⟩ := owns_room hown h0
  have HX := Hid.mk (strs_of hown)
  have HB1 := Hid.mk hb1
  have HNC := Hid.mk hnc
  clear hown hb1 hnc
  go_wp2_with fail
  refine (HM.out _ _ _ HX.out).mono ?_
  rintro e w2 ⟨rfl, hw2⟩
  subst hw2
  go_wp2_with fail
  refine (HO.out _ _ _ HNC.out HX.out).mono ?_
  rintro e w3 ⟨rfl, hw3⟩
  subst hw3
  go_wp2_with fail
  go_ret2
  exact ⟨rfl, HB1.out⟩
/-- First of any frames -/
theorem first_any (a : Option Addr) (n cap : Nat) (l : List FrV) (w : World) (hS : SizesAt w) (hF : IsFrames w a n cap l) :
    Calls Tryd.prog 6 #[.slice a n cap] w fun e w' => e = .returned (.tuple #[.int .i64 (if firstE l = 0 then idxG (namesL l) (minL (namesL l)) else 0), .int .i64 (firstE l)]) ∧ Below w.heap.size w w' := by
  have hl := hF.len
  by_cases h6 : 6 < n
  · have e1 : firstE l = 2 := by unfold firstE; rw [if_pos (by omega)]
    rw [e1]
    refine (first_many a n cap w h6).mono ?_
    rintro e w1 ⟨rfl, rfl⟩
    exact ⟨rfl, Below.refl _ _⟩
  · by_cases hz : firE (l.map (·.f)) = 0
    · by_cases h0 : n = 0
      · have e1 : firstE l = 8 := by unfold firstE; rw [if_neg (by omega), if_neg (fun h => h hz), if_pos (by omega)]
        rw [e1]
        exact first_none a n cap l w hS hF h0
      · have e1 : firstE l = onlyE (namesL l) (minL (namesL l)) := by unfold firstE; rw [if_neg (by omega), if_neg (fun h => h hz), if_neg (by omega)]
        rw [e1]
        exact first_ok a n cap l w hS hF (by omega) (by omega) hz
    · have e1 : firstE l = firE (l.map (·.f)) := by unfold firstE; rw [if_neg (by omega), if_pos hz]
      rw [e1, if_neg hz]
      exact first_bad a n cap l w hS hF (by omega) hz
end Bw
end Go.Proofs.YthdhhmflfdbkhaaDoor

/- Where First tells one, Send tells the same; who went through is one of the frames: plain facts. -/
namespace Go.Proofs.YthdhhmflfdbkhaaDoor
namespace Bw
open Bm Cm
theorem send_parts {l : List FrV} (h : sendE l = 0) : l.length ≤ 6 ∧ l.length ≠ 0 ∧ firE (l.map (·.f)) = 0 ∧ onlyE (difsL l) (-1) = 0 := by
  unfold sendE at h
  by_cases h6 : 6 < l.length
  · rw [if_pos h6] at h; exact absurd h (by decide)
  · rw [if_neg h6] at h
    by_cases h0 : l.length = 0
    · rw [if_pos h0] at h; exact absurd h (by decide)
    · rw [if_neg h0] at h
      by_cases hz : firE (l.map (·.f)) = 0
      · rw [if_neg (fun x => x hz)] at h
        exact ⟨by omega, h0, hz, h⟩
      · rw [if_pos hz] at h; exact absurd h hz
theorem first_parts {l : List FrV} (h : firstE l = 0) : l.length ≤ 6 ∧ l.length ≠ 0 ∧ firE (l.map (·.f)) = 0 ∧ onlyE (namesL l) (minL (namesL l)) = 0 := by
  unfold firstE at h
  by_cases h6 : 6 < l.length
  · rw [if_pos h6] at h; exact absurd h (by decide)
  · rw [if_neg h6] at h
    by_cases hz : firE (l.map (·.f)) = 0
    · rw [if_neg (fun x => x hz)] at h
      by_cases h0 : l.length = 0
      · rw [if_pos h0] at h; exact absurd h (by decide)
      · rw [if_neg h0] at h
        exact ⟨by omega, h0, hz, h⟩
    · rw [if_pos hz] at h; exact absurd h hz
theorem rowsL_map (l : List FrV) : rowsL l = (l.map (·.f)).map bitsL := by unfold rowsL; rw [List.map_map]; rfl
theorem namesL_map (l : List FrV) : namesL l = (l.map (·.f)).map nameL := by unfold namesL; rw [List.map_map]; rfl
theorem difs_only {l : List FrV} (h0 : l.length ≠ 0) (hz : firE (l.map (·.f)) = 0) : onlyE (difsL l) (-1) = onlyE (rowsL l) (bestL l) ∧ idxG (difsL l) (-1) = idxG (rowsL l) (bestL l) := by
  obtain ⟨_, _, hA, hL⟩ := rows_facts l hz h0
  refine ⟨?_, dif_idx hA hL.1⟩
  have hd := dif_count hA hL.1
  rw [onlyE_rows hL.1, ← hd]
  unfold difsL
  exact onlyE_mem (dif_mem hL.1)
theorem first_send {l : List FrV} (h : firstE l = 0) : sendE l = 0 ∧ idxG (difsL l) (-1) = idxG (namesL l) (minL (namesL l)) := by
  obtain ⟨h6, h0, hz, ho⟩ := first_parts h
  obtain ⟨d1, d2⟩ := difs_only h0 hz
  have hne : l.map (·.f) ≠ [] := by
    intro e
    have := congrArg List.length e
    simp at this
    exact h0 (by rw [this]; rfl)
  have hm : minL (namesL l) ∈ namesL l := by
    rw [namesL_map]
    exact minL_mem (by simpa using hne)
  have hcnt : ¬ 1 < (namesL l).count (minL (namesL l)) := by
    intro hx
    rw [onlyE_rows hm, if_pos hx] at ho
    exact absurd ho (by decide)
  rw [namesL_map] at hcnt
  obtain ⟨f1, f2⟩ := first_wins (l.map (·.f)) hne hcnt
  rw [← rowsL_map, ← namesL_map] at f2
  rw [← rowsL_map] at f1
  refine ⟨?_, ?_⟩
  · unfold sendE
    rw [if_neg (by omega), if_neg h0, if_neg (fun x => x hz), d1]
    exact f1
  · rw [d2]; exact f2
theorem send_who {l : List FrV} (h : sendE l = 0) : ∃ i : Nat, ∃ hi : i < l.length, idxG (difsL l) (-1) = i ∧ bitsL l[i].f = bestL l ∧ frE l[i].f = 0 := by
  obtain ⟨h6, h0, hz, ho⟩ := send_parts h
  obtain ⟨_, d2⟩ := difs_only h0 hz
  obtain ⟨_, _, hA, hL⟩ := rows_facts l hz h0
  obtain ⟨a, b, hab, ha⟩ := firstG hL.1
  have hi : a.length < (rowsL l).length := by rw [hab]; simp
  have hil : a.length < l.length := by simpa [rowsL] using hi
  refine ⟨a.length, hil, ?_, ?_, ?_⟩
  · rw [d2, hab, idxG_at a b _ ha]
  · have e1 : (rowsL l)[a.length]'hi = bitsL (l[a.length]'hil).f := by simp [rowsL]
    rw [← e1]
    have e2 : (rowsL l)[a.length]? = some (bestL l) := by rw [hab]; simp
    rw [List.getElem?_eq_getElem hi] at e2
    exact Option.some.inj e2
  · exact (firE_zero _).1 hz _ (List.mem_map.2 ⟨_, List.getElem_mem hil, rfl⟩)
end Bw
end Go.Proofs.YthdhhmflfdbkhaaDoor

/- What slices.Equal answers of two slices that hold the same numbers: true. -/
namespace Go.Proofs.YthdhhmflfdbkhaaDoor
open Go.ChangeShapes Go.WideShapes Go.ChangeAt Go.RowKit
namespace Bw
open Bm
set_option maxHeartbeats 1000000 in
theorem equalN_true (w : World) (g h n c d : Nat) (xs : List Int) (hx : xs.length = n) (hn : n ≤ 1000) (ha : NumsAt w g 0 xs) (hb : NumsAt w h 0 xs) :
    Calls Tryd.prog 19 #[.slice (some ⟨g, 0, none⟩) n c, .slice (some ⟨h, 0, none⟩) n d] w fun e w' => e = .returned (.bool true) ∧ Below w.heap.size w w' := by
  have HA := Hid.mk ha
  have HB := Hid.mk hb
  have HX := Hid.mk hx
  clear ha hb hx
  go_enter Tryd.func19, Tryd.ntmps19
  go_wp2
  go_loopw [13] (fun i w' => ∃ k : Nat, k ≤ n ∧ i = .int .i64 k ∧ ∃ m, w' = w.drewN m) (fun i _ => n - (intOf i).toNat)
  case atStart => exact ⟨0, Nat.zero_le _, rfl, 0, rfl⟩
  case round =>
    obtain ⟨k, hk, rfl, m, rfl⟩ := hrel
    by_cases hlt : k < n
    · have g1 := HA.out k (by rw [HX.out]; exact hlt)
      have g2 := HB.out k (by rw [HX.out]; exact hlt)
      simp only [Nat.zero_add] at g1 g2
      generalize xs.getD k 0 = y at *
      have hlt' : (k : Int) < (n : Int) := by omega
      go_wp2
      go_quiet (fail)
      go_wp2
      go_roundw
      case rel => exact ⟨k + 1, by omega, by go_num, _, rfl⟩
      case measure => simp [intOf]; omega
    · go_wp2
      go_ret
      exact ⟨rfl, ⟨rfl, rfl, rfl, Nat.le_refl _, fun _ _ => rfl⟩⟩
end Bw
end Go.Proofs.YthdhhmflfdbkhaaDoor

/- The closed fact that each law of the wire asks for: two frames at a time. -/
namespace Go.Proofs.YthdhhmflfdbkhaaDoor
open Go.ChangeShapes Go.WideShapes Go.ChangeAt Go.RowKit
namespace Bw
open Bm Cm
def w6 : FrV := ⟨⟨6, false, false, false, 0, []⟩, none, 0, 0⟩
def w5 : FrV := ⟨⟨5, false, false, false, 0, []⟩, none, 0, 0⟩
theorem w65_send : sendE [w6, w5] = 0 := by decide +kernel
theorem w65_best : bestL [w6, w5] = bitsL w5.f := by decide +kernel
theorem w65_difs : difsL [w6, w5] = [11, -1] := by decide +kernel
theorem w5_ok : frE w5.f = 0 := by decide +kernel
def w65C : Obj := .cells #[.int .i64 6, .bool false, .bool false, .bool false, .int .i64 0, .slice none 0 0, .int .i64 5, .bool false, .bool false, .bool false, .int .i64 0, .slice none 0 0] 30
theorem w65_frames (w : World) : IsFrames (w.alloc w65C) (some ⟨w.heap.size, 0, none⟩) 2 2 [w6, w5] := by
  refine ⟨rfl, Nat.le_refl _, by unfold maxLen; decide, (fun h => by cases h), ?_, ?_⟩
  · intro x hx i hi k hk
    cases hx
    have e : ∀ j, (Addr.add ⟨w.heap.size, 0, none⟩ j) = ⟨w.heap.size, j, none⟩ := by intro j; simp [Addr.add]; exact fun h => h.symm
    rw [e, cell_of_row _ _ _ _ _ _ (heap_alloc_new w w65C)]
    have hi2 : i < 2 := hi
    match i, hi2, k, hk with
    | 0, _, 0, _ => rfl
    | 0, _, 1, _ => rfl
    | 0, _, 2, _ => rfl
    | 0, _, 3, _ => rfl
    | 0, _, 4, _ => rfl
    | 0, _, 5, _ => rfl
    | 1, _, 0, _ => rfl
    | 1, _, 1, _ => rfl
    | 1, _, 2, _ => rfl
    | 1, _, 3, _ => rfl
    | 1, _, 4, _ => rfl
    | 1, _, 5, _ => rfl
  · intro i hi
    have hi2 : i < 2 := hi
    match i, hi2 with
    | 0, _ => exact ⟨rfl, Nat.le_refl _, Nat.zero_le _, fun _ => rfl, fun x hx => by cases hx⟩
    | 1, _ => exact ⟨rfl, Nat.le_refl _, Nat.zero_le _, fun _ => rfl, fun x hx => by cases hx⟩
def n11C : Obj := .cells #[.int .i64 11, .int .i64 (-1)] 3
theorem n11_nums (w : World) : NumsAt (w.alloc n11C) w.heap.size 0 [11, -1] := by
  intro i hi
  rw [Nat.zero_add, cell_of_row _ _ _ _ _ _ (heap_alloc_new w n11C)]
  have hi2 : i < 2 := hi
  match i, hi2 with
  | 0, _ => rfl
  | 1, _ => rfl
set_option maxHeartbeats 8000000 in
theorem wired_any (w : World) (hS : SizesAt w) (hR : RulesAt w) :
    Calls Tryd.prog 7 #[] w fun e w' => e = .returned (.bool true) ∧ Below w.heap.size w w' := by
  have hB0 : Below w.heap.size w (w.alloc w65C) := (Below.refl _ _).alloc (Nat.le_refl _) _
  have a1 := (send_any (some ⟨w.heap.size, 0, none⟩) 2 2 [w6, w5] _ (hS.kept hB0) (hR.kept hB0) (w65_frames w)).mono (fun _ _ h => And.intro (h.2.1 w65_send) h.2.2)
  rw [w65_best, w65_difs] at a1
  have e1 : idxG ([11, -1] : List Int) (-1) = 1 := by decide
  rw [e1] at a1
  have a2 := fun W h1 h2 => frBits_ok w5.f none 0 0 W h1 h2 ⟨rfl, Nat.le_refl _, Nat.zero_le _, fun _ => rfl, fun x hx => by cases hx⟩ w5_ok
  have a3 := fun W g h h1 h2 => equalN_true W g h 2 2 2 [11, -1] rfl (by decide) h1 h2
  have h11 := fun W => n11_nums W
  have b11 : ∀ W : World, Below W.heap.size W (W.alloc n11C) := fun W => (Below.refl _ _).alloc (Nat.le_refl _) _
  generalize ByteArray.mk (bitsL w5.f).toArray = X at *
  unfold w65C at a1 hB0
  unfold frameV w5 at a2
  unfold n11C at h11 b11
  simp only at a2
  have HA1 := Hid.mk a1
  have HA2 := Hid.mk a2
  have HA3 := Hid.mk a3
  have H11 := Hid.mk h11
  have B11 := Hid.mk b11
  have HB := Hid.mk hB0
  have HS := Hid.mk hS
  have HR := Hid.mk hR
  clear a1 a2 a3 h11 b11 hB0 hS hR e1
  go_enter Tryd.func7, Tryd.ntmps7
  go_wp2_with fail
  refine HA1.out.mono ?_
  rintro e w1 ⟨⟨g, rfl, hown⟩, hb1⟩
  have HB1 := Hid.mk (bl2 HB.out hb1)
  have HO := Hid.mk hown
  clear hown hb1
  go_wp2_with fail
  refine (HA2.out _ (HS.out.kept HB1.out) (HR.out.kept HB1.out)).mono ?_
  rintro e w2 ⟨rfl, hb2⟩
  have HB2 := Hid.mk (bl2 HB1.out hb2)
  have HO2 := Hid.mk (ownsRow_below HO.out hb2)
  clear hb2
  go_wp2_with fail
  refine (HA3.out _ _ _ (nums_of (HO2.out.alloc _)) (H11.out _)).mono ?_
  rintro e w3 ⟨rfl, hb3⟩
  have HB3 := Hid.mk (bl2 (bl2 HB2.out (B11.out _)) hb3)
  clear hb3
  go_wp2_with fail
  go_ret
  exact ⟨rfl, HB3.out⟩
end Bw
end Go.Proofs.YthdhhmflfdbkhaaDoor

/- What bytes.Equal and frame.Same answer. -/
namespace Go.Proofs.YthdhhmflfdbkhaaDoor
open Go.ChangeShapes Go.WideShapes Go.ChangeAt Go.RowKit
namespace Bw
open Bm Cm

theorem convert_bytes {w : World} {a : Option Addr} {len cap : Nat} {l : List UInt8} (h : IsBytes w a len cap l) :
    (convert 28 9 (.slice a len cap)).run Tryd.prog w = .ok (.string ⟨l.toArray⟩) w := by
  obtain ⟨h1, h2, h3, h4, h5⟩ := h
  cases a with
  | none =>
    have h0 := h4 rfl
    subst h0
    have hl : l = [] := List.eq_nil_of_length_eq_zero h1
    subst hl
    exact run_convert_bytes_nil w 28 5 Tryd.underlying28 Tryd.underlying5 0 cap 9 Tryd.underlying9
  | some x =>
    have := run_convert_bytes_back w 28 9 5 x cap l Tryd.underlying28 Tryd.underlying5 Tryd.underlying9 (fun j hj => by
      rw [h5 x rfl j (by omega)]
      simp [List.getD, hj])
    rw [h1] at this
    exact this
theorem ba_listEq {A B : ByteArray} {x y : List UInt8} (hA : A.data.toList = x) (hB : B.data.toList = y) : (A.toList == B.toList) = decide (x = y) := by
  rw [ByteArray.toList_eq, ByteArray.toList_eq, hA, hB, Bool.eq_iff_iff, beq_iff_eq, decide_eq_true_iff]
set_option maxHeartbeats 1000000 in
theorem bytesEqual_any (a1 a2 : Option Addr) (n1 c1 n2 c2 : Nat) (l1 l2 : List UInt8) (w : World) (h1 : IsBytes w a1 n1 c1 l1) (h2 : IsBytes w a2 n2 c2 l2) :
    Calls Tryd.prog 40 #[.slice a1 n1 c1, .slice a2 n2 c2] w fun e w' => e = .returned (.bool (decide (l1 = l2))) ∧ w' = w := by
  have k1 := convert_bytes h1
  have k2 := convert_bytes h2
  have hl1 := mk_list l1
  have hl2 := mk_list l2
  have hz1 : l1.length ≤ maxLen := by rw [h1.1]; have := h1.2.1; have := h1.2.2.1; omega
  have hz2 : l2.length ≤ maxLen := by rw [h2.1]; have := h2.2.1; have := h2.2.2.1; omega
  generalize ByteArray.mk l1.toArray = A at *
  generalize ByteArray.mk l2.toArray = B at *
  have he := ba_listEq hl1 hl2
  rw [← he]
  clear h1 h2 hl1 hl2 he hz1 hz2
  go_enter Tryd.func40, Tryd.ntmps40
  go_wp2_with fail
  go_ret
  exact ⟨rfl, rfl⟩

set_option maxHeartbeats 8000000 in
theorem same_any (f g : Fr) (a1 a2 : Option Addr) (n1 c1 n2 c2 : Nat) (w : World) (h1 : IsBytes w a1 n1 c1 f.dt) (h2 : IsBytes w a2 n2 c2 g.dt) :
    Calls Tryd.prog 15 #[frameV f.id f.lo f.fa f.re f.sz a1 n1 c1, frameV g.id g.lo g.fa g.re g.sz a2 n2 c2] w fun e w' => e = .returned (.bool (decide (f = g))) ∧ Below w.heap.size w w' := by
  obtain ⟨id1, lo1, fa1, re1, sz1, dt1⟩ := f
  obtain ⟨id2, lo2, fa2, re2, sz2, dt2⟩ := g
  simp only at h1 h2 ⊢
  have hB1 := below_box w id1 lo1 fa1 re1 sz1 a1 n1 c1
  have hB2 := below_box (w.alloc (frameC id1 lo1 fa1 re1 sz1 a1 n1 c1)) id2 lo2 fa2 re2 sz2 a2 n2 c2
  have hB := bl2 hB1 hB2
  have HY1 := Hid.mk (isBytes_below h1 hB)
  have HY2 := Hid.mk (isBytes_below h2 hB)
  have HB := Hid.mk hB
  unfold frameC at HY1 HY2 HB
  unfold frameV
  clear h1 h2 hB1 hB2 hB
  by_cases hid : id1 = id2
  · subst hid
    by_cases hlo : lo1 = lo2
    · subst hlo
      by_cases hfa : fa1 = fa2
      · subst hfa
        by_cases hre : re1 = re2
        · subst hre
          by_cases hsz : sz1 = sz2
          · subst hsz
            by_cases hdt : dt1 = dt2
            · have hd : decide (dt1 = dt2) = true := by simpa using hdt
              have hbe := fun W hW1 hW2 => bytesEqual_any a1 a2 n1 c1 n2 c2 dt1 dt2 W hW1 hW2
              rw [hd] at hbe
              have HBE := Hid.mk hbe
              have hr : decide ((⟨id1, lo1, fa1, re1, sz1, dt1⟩ : Fr) = ⟨id1, lo1, fa1, re1, sz1, dt2⟩) = true := by simp [hdt]
              rw [hr]
              clear hbe hd hr hdt
              go_enter Tryd.func15, Tryd.ntmps15
              go_wp2_with fail
              refine (HBE.out _ HY1.out HY2.out).mono ?_
              rintro e w1 ⟨rfl, hw1⟩
              subst hw1
              go_wp2_with fail
              go_ret
              exact ⟨rfl, HB.out⟩
            · have hd : decide (dt1 = dt2) = false := by simpa using hdt
              have hbe := fun W hW1 hW2 => bytesEqual_any a1 a2 n1 c1 n2 c2 dt1 dt2 W hW1 hW2
              rw [hd] at hbe
              have HBE := Hid.mk hbe
              have hr : decide ((⟨id1, lo1, fa1, re1, sz1, dt1⟩ : Fr) = ⟨id1, lo1, fa1, re1, sz1, dt2⟩) = false := by simp [hdt]
              rw [hr]
              clear hbe hd hr hdt
              go_enter Tryd.func15, Tryd.ntmps15
              go_wp2_with fail
              refine (HBE.out _ HY1.out HY2.out).mono ?_
              rintro e w1 ⟨rfl, hw1⟩
              subst hw1
              go_wp2_with fail
              go_ret
              exact ⟨rfl, HB.out⟩
          · have hb : (sz1 == sz2) = false := by simpa using hsz
            have hr : decide ((⟨id1, lo1, fa1, re1, sz1, dt1⟩ : Fr) = ⟨id1, lo1, fa1, re1, sz2, dt2⟩) = false := by simp [hsz]
            rw [hr]
            clear hr hsz
            go_enter Tryd.func15, Tryd.ntmps15
            go_wp2_with fail
            go_ret
            exact ⟨rfl, HB.out⟩
        · have hb : (re1 == re2) = false := by simpa using hre
          have hr : decide ((⟨id1, lo1, fa1, re1, sz1, dt1⟩ : Fr) = ⟨id1, lo1, fa1, re2, sz2, dt2⟩) = false := by simp [hre]
          rw [hr]
          clear hr hre
          go_enter Tryd.func15, Tryd.ntmps15
          go_wp2_with fail
          go_ret
          exact ⟨rfl, HB.out⟩
      · have hb : (fa1 == fa2) = false := by simpa using hfa
        have hr : decide ((⟨id1, lo1, fa1, re1, sz1, dt1⟩ : Fr) = ⟨id1, lo1, fa2, re2, sz2, dt2⟩) = false := by simp [hfa]
        rw [hr]
        clear hr hfa
        go_enter Tryd.func15, Tryd.ntmps15
        go_wp2_with fail
        go_ret
        exact ⟨rfl, HB.out⟩
    · have hb : (lo1 == lo2) = false := by simpa using hlo
      have hr : decide ((⟨id1, lo1, fa1, re1, sz1, dt1⟩ : Fr) = ⟨id1, lo2, fa2, re2, sz2, dt2⟩) = false := by simp [hlo]
      rw [hr]
      clear hr hlo
      go_enter Tryd.func15, Tryd.ntmps15
      go_wp2_with fail
      go_ret
      exact ⟨rfl, HB.out⟩
  · have hb : (id1 == id2) = false := by simpa using hid
    have hr : decide ((⟨id1, lo1, fa1, re1, sz1, dt1⟩ : Fr) = ⟨id2, lo2, fa2, re2, sz2, dt2⟩) = false := by simp [hid]
    rw [hr]
    clear hr hid
    go_enter Tryd.func15, Tryd.ntmps15
    go_wp2_with fail
    go_ret
    exact ⟨rfl, HB.out⟩
end Bw
end Go.Proofs.YthdhhmflfdbkhaaDoor

/- The table of the numbers of bytes off the row's own condition. -/
namespace Go.Proofs.YthdhhmflfdbkhaaDoor
open Go.ChangeShapes Go.WideShapes Go.ChangeAt Go.RowKit
namespace Bw
theorem fsz_eq : Rows.laid_omnibus_frame_sizes (H := Unit) = Lib.tabData .i64 sizesI := by kernel_rfl
theorem fsz_t : Tryd.prog.underlying 95 = some (.array 16 3) := by kernel_rfl
theorem fsz_c : Tryd.prog.cellsOf 95 = 16 := by kernel_rfl
theorem fsz_c1 : Tryd.prog.cellsOf 3 = 1 := by kernel_rfl
theorem fsz_g : Tryd.prog.globalNamed "omnibus/frame.sizes" = some 1 := by kernel_rfl
theorem fsz_y : (Tryd.prog.globals[1]?).map (·.type) = some 95 := by kernel_rfl
theorem sizes_of {W : World} {laid : List (String × DataW Unit)} (hL : laidMet Tryd.prog laid W)
    (h1 : ("omnibus/frame.sizes", Rows.laid_omnibus_frame_sizes) ∈ laid) : SizesAt W := by
  obtain ⟨g, t, cs, fuel, p, hg, hty, hvar, hd⟩ := Lib.laidMet.reads hL h1
  obtain rfl := Option.some.inj (fsz_g.symm.trans hg)
  obtain rfl := Option.some.inj (fsz_y.symm.trans hty)
  rw [fsz_eq] at hd
  have hcs := Lib.cells_of_tab fsz_t Tryd.underlying3 fsz_c1 fsz_c hd
  intro i hi
  have := World.var?_cell hg hvar i
  rw [this, ← Array.getElem?_toList, hcs]
  rw [List.getElem?_map, List.getElem?_eq_getElem hi]
  simp [List.getD, hi]
end Bw
end Go.Proofs.YthdhhmflfdbkhaaDoor

/- The table of kinds off the row's own condition: its cells hold the sizes, polynomials, starts and ends. -/
namespace Go.Proofs.YthdhhmflfdbkhaaDoor
open Go.ChangeShapes Go.WideShapes Go.ChangeAt Go.RowKit
namespace Bw
open Cm
def ruleZ (k : Nat) : List Int := [(kS k : Int), (kP k : Int), (kF k : Int), (kE k : Int)]
def rulesD : List (DataW Unit) := [0, 1, 2, 3, 4].map fun k => .agg ((ruleZ k).map fun z => .lit (.int .i64 z))
theorem five_at (k : Nat) (hk : k ≤ 4) : [0, 1, 2, 3, 4][k]? = some k := by
  match k, hk with
  | 0, _ => rfl
  | 1, _ => rfl
  | 2, _ => rfl
  | 3, _ => rfl
  | 4, _ => rfl
theorem rulesD_at (k : Nat) (hk : k ≤ 4) : rulesD[k]? = some (.agg ((ruleZ k).map fun z => .lit (.int .i64 z))) := by
  rw [rulesD, List.getElem?_map, five_at k hk]; rfl
theorem rules_eq : Rows.laid_omnibus_check_rules (H := Unit) = .agg rulesD := by kernel_rfl
theorem rules_t : Tryd.prog.underlying 83 = some (.array 5 82) := by kernel_rfl
theorem rule_c : Tryd.prog.cellsOf 82 = 4 := by kernel_rfl
theorem int_c : Tryd.prog.cellsOf 3 = 1 := by kernel_rfl
theorem rules_g : Tryd.prog.globalNamed "omnibus/check.rules" = some 0 := by kernel_rfl
theorem rules_y : (Tryd.prog.globals[0]?).map (·.type) = some 83 := by kernel_rfl
theorem rules_of {W : World} {laid : List (String × DataW Unit)} (hL : laidMet Tryd.prog laid W)
    (h1 : ("omnibus/check.rules", Rows.laid_omnibus_check_rules) ∈ laid) : RulesAt W := by
  obtain ⟨g, t, cs, fuel, p, hg, hty, hvar, hd⟩ := Lib.laidMet.reads hL h1
  obtain rfl := Option.some.inj (rules_g.symm.trans hg)
  obtain rfl := Option.some.inj (rules_y.symm.trans hty)
  rw [rules_eq] at hd
  intro k hk
  obtain ⟨fuel', d, q, hdk, htr⟩ := Lib.array_elem rules_t hd k (by omega)
  have hdd : d = .agg ((ruleZ k).map fun z => .lit (.int .i64 z)) := by
    have := rulesD_at k hk
    rw [hdk] at this
    exact Option.some.inj this
  subst hdd
  have hz := Lib.ints_of_struct Tryd.underlying82 (by
    intro i f h
    match i, h with
    | 0, h => cases h; exact ⟨Tryd.underlying3, rfl, int_c⟩
    | 1, h => cases h; exact ⟨Tryd.underlying3, rfl, int_c⟩
    | 2, h => cases h; exact ⟨Tryd.underlying3, rfl, int_c⟩
    | 3, h => cases h; exact ⟨Tryd.underlying3, rfl, int_c⟩
    | i + 4, h => simp at h) rule_c htr
  rw [rule_c] at hz
  have hc : ∀ j, j < 4 → cs[k * 4 + j]? = ((ruleZ k).map fun z => Value.int .i64 z)[j]? := by
    intro j hj
    rw [← hz, List.getElem?_take_of_lt hj, List.getElem?_drop, Array.getElem?_toList]
  have hv := fun j => World.var?_cell hg hvar j
  refine ⟨?_, ?_, ?_, ?_⟩
  · rw [hv, ← Nat.add_zero (k * 4), hc 0 (by omega)]; rfl
  · rw [hv, hc 1 (by omega)]; rfl
  · rw [hv, hc 2 (by omega)]; rfl
  · rw [hv, hc 3 (by omega)]; rfl
end Bw
end Go.Proofs.YthdhhmflfdbkhaaDoor
