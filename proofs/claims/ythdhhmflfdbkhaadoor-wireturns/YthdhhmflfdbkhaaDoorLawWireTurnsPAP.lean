/- Joined out of our texts: WFirst, WwinsM, WturnM, FrameSized, FrClone, ShelfRev, ShelfRvf, FrRev, EqualN, Wired, SizesRow, RulesRow. -/
import Derived.Test.YthdhhmflfdbkhaaDoorLawWireTurnsPAO
import Derived.Test.YthdhhmflfdbkhaaDoorLawWireTurnsPAJ
import Derived.Test.YthdhhmflfdbkhaaDoorLawWireTurnsPAE
import Derived.SizedLaws
import Derived.Test.YthdhhmflfdbkhaaDoorLawWireTurnsPAG
import Derived.Lib.SliceRun
import Derived.Shelf.Slices.Reverse
import Derived.Test.YthdhhmflfdbkhaaDoorProg
import Derived.Shelf.SlicesQ.Reverse
import Derived.Test.YthdhhmflfdbkhaaDoorLawWireTurnsPAF
import Derived.Test.YthdhhmflfdbkhaaDoorRows
import Derived.Lib.LaidU8
import Derived.Test.YthdhhmflfdbkhaaDoorLawWireTurnsPAH
/- What wire.First answers of any frames. -/
namespace Go.Proofs.YthdhhmflfdbkhaaDoor
open Go.ChangeShapes Go.WideShapes Go.ChangeAt Go.RowKit
namespace Bw
open Bm Cm
/-- the names of frames -/
def namesL (l : List FrV) : List (List UInt8) := l.map fun v => nameL v.f
/-- the error that First tells -/
def firstE (l : List FrV) : Int := if 6 < l.length then 2 else if firE (l.map (·.f)) ≠ 0 then firE (l.map (·.f)) else if l.length = 0 then 8 else onlyE (namesL l) (minL (namesL l))
set_option maxHeartbeats 2000000 in
theorem first_many (a : Option Addr) (n cap : Nat) (w : World) (h : 6 < n) :
    Calls Tryd.prog 6 #[.slice a n cap] w fun e w' => e = .returned (.tuple #[.int .i64 0, .int .i64 2]) ∧ w' = w := by
  have h2 : (6 : Int) < (n : Int) := by omega
  go_enter Tryd.func6, Tryd.ntmps6
  go_wp2_with fail
  go_ret2
  exact ⟨rfl, rfl⟩
set_option maxHeartbeats 2000000 in
theorem first_bad (a : Option Addr) (n cap : Nat) (l : List FrV) (w : World) (hS : SizesAt w) (hF : IsFrames w a n cap l) (h6 : n ≤ 6) (hz : firE (l.map (·.f)) ≠ 0) :
    Calls Tryd.prog 6 #[.slice a n cap] w fun e w' => e = .returned (.tuple #[.int .i64 0, .int .i64 (firE (l.map (·.f)))]) ∧ Below w.heap.size w w' := by
  have ha := (eachName_any a n cap l w hS hF h6).mono (fun _ _ h => And.intro (h.1 hz) h.2.2)
  have HE := Hid.mk ha
  have hne : (firE (l.map (·.f)) != 0) = true := by simpa using hz
  have h6' : (n : Int) ≤ 6 := by omega
  generalize firE (l.map (·.f)) = ce at *
  clear ha hS hF hz
  go_enter Tryd.func6, Tryd.ntmps6
  go_wp2_with fail
  refine HE.out.mono ?_
  rintro e w1 ⟨rfl, hb1⟩
  go_wp2_with fail
  go_ret2
  exact ⟨rfl, hb1⟩
set_option maxHeartbeats 2000000 in
theorem first_none (a : Option Addr) (n cap : Nat) (l : List FrV) (w : World) (hS : SizesAt w) (hF : IsFrames w a n cap l) (h0 : n = 0) :
    Calls Tryd.prog 6 #[.slice a n cap] w fun e w' => e = .returned (.tuple #[.int .i64 0, .int .i64 8]) ∧ Below w.heap.size w w' := by
  subst h0
  have hz : firE (l.map (·.f)) = 0 := by
    have : l = [] := List.eq_nil_of_length_eq_zero hF.len
    subst this; rfl
  have ha := (eachName_any a 0 cap l w hS hF (by omega)).mono (fun _ _ h => And.intro (h.2.1 hz) h.2.2)
  have HE := Hid.mk ha
  clear ha hS hF hz
  go_enter Tryd.func6, Tryd.ntmps6
  go_wp2_with fail
  refine HE.out.mono ?_
  rintro e w1 ⟨⟨rv, rfl, hown⟩, hb1⟩
  obtain ⟨ra, rc, rfl⟩ := owns_slice hown
  clear hown
  go_wp2_with fail
  go_ret2
  exact ⟨rfl, hb1⟩
theorem owns_room {w : World} {base : Nat} {e : TypeId} {size : Nat} {v : Value} {n : Nat} {xs : List Value} (h : w.ownsRow base e size v n xs) (h0 : 0 < n) : ∃ g cap, v = .slice (some ⟨g, 0, none⟩) n cap ∧ n ≤ cap := by
  rcases h.2 with ⟨rfl, rfl⟩ | ⟨g, cap, cur, rfl, _, _, hc, -⟩
  · omega
  · exact ⟨_, _, rfl, hc⟩
set_option maxHeartbeats 4000000 in
theorem first_ok (a : Option Addr) (n cap : Nat) (l : List FrV) (w : World) (hS : SizesAt w) (hF : IsFrames w a n cap l) (h0 : 0 < n) (h6 : n ≤ 6) (hz : firE (l.map (·.f)) = 0) :
    Calls Tryd.prog 6 #[.slice a n cap] w fun e w' => e = .returned (.tuple #[.int .i64 (onlyN (namesL l) (minL (namesL l))), .int .i64 (onlyE (namesL l) (minL (namesL l)))]) ∧ Below w.heap.size w w' := by
  have hrl : (namesL l).length = n := by rw [namesL, List.length_map, hF.len]
  have ha := (eachName_any a n cap l w hS hF h6).mono (fun _ _ h => And.intro (h.2.1 hz) h.2.2)
  have hm := fun g c W hX => minS_any g n c (namesL l) W hrl h0 (by omega) hX
  have ho := fun g c W hc hX => onlyT_any g n c (namesL l) (minL (namesL l)) W hrl h6 hc hX
  have HRO := Hid.mk (show strC (l.map fun v => nameL v.f) = strC (namesL l) from rfl)
  generalize onlyN (namesL l) (minL (namesL l)) = oN at *
  generalize onlyE (namesL l) (minL (namesL l)) = oE at *
  generalize ByteArray.mk (minL (namesL l)).toArray = BT at *
  have h0' : ((n : Int) == 0) = false := by rw [beq_eq_false_iff_ne]; omega
  have h6' : (n : Int) ≤ 6 := by omega
  have HE := Hid.mk ha
  have HM := Hid.mk hm
  have HO := Hid.mk ho
  clear ha hm ho hS hF hz hrl
  go_enter Tryd.func6, Tryd.ntmps6
  go_wp2_with fail
  refine HE.out.mono ?_
  rintro e w1 ⟨⟨rv, rfl, hown⟩, hb1⟩
  rw [HRO.out] at hown
  obtain ⟨gr, cr, rfl, hnc⟩ := owns_room hown h0
  have HX := Hid.mk (strs_of hown)
  have HB1 := Hid.mk hb1
  have HNC := Hid.mk hnc
  clear hown hb1 hnc
  go_wp2_with fail
  refine (HM.out _ _ _ HX.out).mono ?_
  rintro e w2 ⟨rfl, hw2⟩
  subst hw2
  go_wp2_with fail
  refine (HO.out _ _ _ HNC.out HX.out).mono ?_
  rintro e w3 ⟨rfl, hw3⟩
  subst hw3
  go_wp2_with fail
  go_ret2
  exact ⟨rfl, HB1.out⟩
/-- First of any frames -/
theorem first_any (a : Option Addr) (n cap : Nat) (l : List FrV) (w : World) (hS : SizesAt w) (hF : IsFrames w a n cap l) :
    Calls Tryd.prog 6 #[.slice a n cap] w fun e w' => e = .returned (.tuple #[.int .i64 (if firstE l = 0 then idxG (namesL l) (minL (namesL l)) else 0), .int .i64 (firstE l)]) ∧ Below w.heap.size w w' := by
  have hl := hF.len
  by_cases h6 : 6 < n
  · have e1 : firstE l = 2 := by unfold firstE; rw [if_pos (by omega)]
    rw [e1]
    refine (first_many a n cap w h6).mono ?_
    rintro e w1 ⟨rfl, rfl⟩
    exact ⟨rfl, Below.refl _ _⟩
  · by_cases hz : firE (l.map (·.f)) = 0
    · by_cases h0 : n = 0
      · have e1 : firstE l = 8 := by unfold firstE; rw [if_neg (by omega), if_neg (fun h => h hz), if_pos (by omega)]
        rw [e1]
        exact first_none a n cap l w hS hF h0
      · have e1 : firstE l = onlyE (namesL l) (minL (namesL l)) := by unfold firstE; rw [if_neg (by omega), if_neg (fun h => h hz), if_neg (by omega)]
        rw [e1]
        exact first_ok a n cap l w hS hF (by omega) (by omega) hz
    · have e1 : firstE l = firE (l.map (·.f)) := by unfold firstE; rw [if_neg (by omega), if_pos hz]
      rw [e1, if_neg hz]
      exact first_bad a n cap l w hS hF (by omega) hz
end Bw
end Go.Proofs.YthdhhmflfdbkhaaDoor

/- Where First tells one, Send tells the same; who went through is one of the frames: plain facts. -/
namespace Go.Proofs.YthdhhmflfdbkhaaDoor
namespace Bw
open Bm Cm
theorem send_parts {l : List FrV} (h : sendE l = 0) : l.length ≤ 6 ∧ l.length ≠ 0 ∧ firE (l.map (·.f)) = 0 ∧ onlyE (difsL l) (-1) = 0 := by
  unfold sendE at h
  by_cases h6 : 6 < l.length
  · rw [if_pos h6] at h; exact absurd h (by decide)
  · rw [if_neg h6] at h
    by_cases h0 : l.length = 0
    · rw [if_pos h0] at h; exact absurd h (by decide)
    · rw [if_neg h0] at h
      by_cases hz : firE (l.map (·.f)) = 0
      · rw [if_neg (fun x => x hz)] at h
        exact ⟨by omega, h0, hz, h⟩
      · rw [if_pos hz] at h; exact absurd h hz
theorem first_parts {l : List FrV} (h : firstE l = 0) : l.length ≤ 6 ∧ l.length ≠ 0 ∧ firE (l.map (·.f)) = 0 ∧ onlyE (namesL l) (minL (namesL l)) = 0 := by
  unfold firstE at h
  by_cases h6 : 6 < l.length
  · rw [if_pos h6] at h; exact absurd h (by decide)
  · rw [if_neg h6] at h
    by_cases hz : firE (l.map (·.f)) = 0
    · rw [if_neg (fun x => x hz)] at h
      by_cases h0 : l.length = 0
      · rw [if_pos h0] at h; exact absurd h (by decide)
      · rw [if_neg h0] at h
        exact ⟨by omega, h0, hz, h⟩
    · rw [if_pos hz] at h; exact absurd h hz
theorem rowsL_map (l : List FrV) : rowsL l = (l.map (·.f)).map bitsL := by unfold rowsL; rw [List.map_map]; rfl
theorem namesL_map (l : List FrV) : namesL l = (l.map (·.f)).map nameL := by unfold namesL; rw [List.map_map]; rfl
theorem difs_only {l : List FrV} (h0 : l.length ≠ 0) (hz : firE (l.map (·.f)) = 0) : onlyE (difsL l) (-1) = onlyE (rowsL l) (bestL l) ∧ idxG (difsL l) (-1) = idxG (rowsL l) (bestL l) := by
  obtain ⟨_, _, hA, hL⟩ := rows_facts l hz h0
  refine ⟨?_, dif_idx hA hL.1⟩
  have hd := dif_count hA hL.1
  rw [onlyE_rows hL.1, ← hd]
  unfold difsL
  exact onlyE_mem (dif_mem hL.1)
theorem first_send {l : List FrV} (h : firstE l = 0) : sendE l = 0 ∧ idxG (difsL l) (-1) = idxG (namesL l) (minL (namesL l)) := by
  obtain ⟨h6, h0, hz, ho⟩ := first_parts h
  obtain ⟨d1, d2⟩ := difs_only h0 hz
  have hne : l.map (·.f) ≠ [] := by
    intro e
    have := congrArg List.length e
    simp at this
    exact h0 (by rw [this]; rfl)
  have hm : minL (namesL l) ∈ namesL l := by
    rw [namesL_map]
    exact minL_mem (by simpa using hne)
  have hcnt : ¬ 1 < (namesL l).count (minL (namesL l)) := by
    intro hx
    rw [onlyE_rows hm, if_pos hx] at ho
    exact absurd ho (by decide)
  rw [namesL_map] at hcnt
  obtain ⟨f1, f2⟩ := first_wins (l.map (·.f)) hne hcnt
  rw [← rowsL_map, ← namesL_map] at f2
  rw [← rowsL_map] at f1
  refine ⟨?_, ?_⟩
  · unfold sendE
    rw [if_neg (by omega), if_neg h0, if_neg (fun x => x hz), d1]
    exact f1
  · rw [d2]; exact f2
theorem send_who {l : List FrV} (h : sendE l = 0) : ∃ i : Nat, ∃ hi : i < l.length, idxG (difsL l) (-1) = i ∧ bitsL l[i].f = bestL l ∧ frE l[i].f = 0 := by
  obtain ⟨h6, h0, hz, ho⟩ := send_parts h
  obtain ⟨_, d2⟩ := difs_only h0 hz
  obtain ⟨_, _, hA, hL⟩ := rows_facts l hz h0
  obtain ⟨a, b, hab, ha⟩ := firstG hL.1
  have hi : a.length < (rowsL l).length := by rw [hab]; simp
  have hil : a.length < l.length := by simpa [rowsL] using hi
  refine ⟨a.length, hil, ?_, ?_, ?_⟩
  · rw [d2, hab, idxG_at a b _ ha]
  · have e1 : (rowsL l)[a.length]'hi = bitsL (l[a.length]'hil).f := by simp [rowsL]
    rw [← e1]
    have e2 : (rowsL l)[a.length]? = some (bestL l) := by rw [hab]; simp
    rw [List.getElem?_eq_getElem hi] at e2
    exact Option.some.inj e2
  · exact (firE_zero _).1 hz _ (List.mem_map.2 ⟨_, List.getElem_mem hil, rfl⟩)
end Bw
end Go.Proofs.YthdhhmflfdbkhaaDoor

/- In whatever order frames are told, Send tells the same: plain facts. -/
namespace Go.Proofs.YthdhhmflfdbkhaaDoor
namespace Bw
open Bm Cm
theorem rowsL_rev (l : List FrV) : rowsL l.reverse = (rowsL l).reverse := by unfold rowsL; rw [List.map_reverse]
theorem firE_rev (l : List FrV) : firE (l.reverse.map (·.f)) = 0 ↔ firE (l.map (·.f)) = 0 := by
  rw [firE_zero, firE_zero, List.map_reverse]
  constructor
  · intro h f hf; exact h f (by simpa using hf)
  · intro h f hf; exact h f (by simpa using hf)
theorem bestL_rev (l : List FrV) (h : l.length ≠ 0) : bestL l.reverse = bestL l := by
  unfold bestL
  rw [rowsL_rev, minL_rev]
  intro e
  have := congrArg List.length e
  simp [rowsL] at this
  exact h (by rw [this]; rfl)
theorem difsL_rev (l : List FrV) (h : l.length ≠ 0) : difsL l.reverse = (difsL l).reverse := by
  unfold difsL
  rw [bestL_rev l h, rowsL_rev, List.map_reverse]
theorem difs_mem (l : List FrV) (h : l.length ≠ 0) : (-1 : Int) ∈ difsL l := by
  refine dif_mem (minL_mem (fun e => ?_))
  have := congrArg List.length e
  simp [rowsL] at this
  exact h (by rw [this]; rfl)
theorem sendE_rev (l : List FrV) : sendE l.reverse = 0 ↔ sendE l = 0 := by
  have key : ∀ l : List FrV, sendE l = 0 → sendE l.reverse = 0 := by
    intro l h
    obtain ⟨h6, h0, hz, ho⟩ := send_parts h
    unfold sendE
    rw [List.length_reverse, if_neg (by omega), if_neg h0, if_neg (fun x => x ((firE_rev l).2 hz)), difsL_rev l h0]
    rw [onlyE_mem (difs_mem l h0)] at ho
    rw [onlyE_mem (by simpa using difs_mem l h0), List.count_reverse]
    exact ho
  refine ⟨fun h => ?_, key l⟩
  have := key l.reverse h
  rwa [List.reverse_reverse] at this
theorem idx_rev {l : List Int} {x : Int} (hm : x ∈ l) (h : onlyE l x = 0) : idxG l x = (l.length : Int) - 1 - idxG l.reverse x := by
  rw [onlyE_mem hm] at h
  obtain ⟨a, b, rfl, ha⟩ := firstG hm
  have hb : x ∉ b := by
    intro hx
    have h1 := List.count_pos_iff.2 hx
    rw [if_pos (by rw [List.count_append, List.count_cons_self]; omega)] at h
    exact absurd h (by decide)
  rw [idxG_at a b x ha, List.reverse_append, List.reverse_cons, List.append_assoc]
  show _ = _ - 1 - idxG (b.reverse ++ x :: a.reverse) x
  rw [idxG_at b.reverse a.reverse x (by simpa using hb)]
  simp
  omega
end Bw
end Go.Proofs.YthdhhmflfdbkhaaDoor

/- How many bytes a frame that came in can have: the row's own reach. -/
namespace Go.Proofs.YthdhhmflfdbkhaaDoor
open Go.ChangeShapes Go.WideShapes Go.ChangeAt Go.RowKit
namespace Bw
theorem bytes_b1 : Tryd.prog.bytesOf 5 = 1 := by kernel_rfl
set_option maxRecDepth 100000 in
theorem frame_len {H : Type} {enc : TypeId × Value → H} {W : World} {id : Int} {lo fa re : Bool} {sz : Int} {a : Option Addr} {len cap : Nat} {fuel : Nat} {x : DataW H × List MemPlace}
    (hf : DataW.trod enc Tryd.prog W 0 (fun _ => true) true fuel 30 (frameV id lo fa re sz a len cap).cells.toList = some x)
    (hw : (DataW.weights Tryd.prog 30 x.1).all (· ≤ reachBytes) = true) : len ≤ 140737488351232 := by
  obtain ⟨xs, n, _, rfl, _, hlen, hF⟩ := DataW.trod_struct Tryd.underlying30 hf
  have hcv : (frameV id lo fa re sz a len cap).cells.toList = [.int .i64 id, .bool lo, .bool fa, .bool re, .int .i64 sz, .slice a len cap] := rfl
  rw [hcv] at hF
  have h6 : xs.length = 6 := hlen
  obtain ⟨y5, e5⟩ : ∃ y, xs[5]? = some y := ⟨xs[5]'(by omega), List.getElem?_eq_getElem (by omega)⟩
  have f5 := hF 5 _ rfl
  rw [e5] at f5
  have f5 : DataW.trod enc Tryd.prog W 0 (fun _ => true) true n 28 (([Value.int .i64 id, .bool lo, .bool fa, .bool re, .int .i64 sz, .slice a len cap].drop 5).take (Tryd.prog.cellsOf 28)) = some y5 := f5
  rw [row_c1] at f5
  have e6 : ([Value.int .i64 id, .bool lo, .bool fa, .bool re, .int .i64 sz, .slice a len cap].drop 5).take 1 = [.slice a len cap] := rfl
  rw [e6] at f5
  have hwe : (DataW.weightsEach Tryd.prog [3, 4, 4, 4, 3, 28] (xs.map (·.1))).all (· ≤ reachBytes) = true := by
    have hw' := hw
    unfold DataW.weights at hw'
    rw [Tryd.underlying30] at hw'
    exact hw'
  rcases open_ints Tryd.underlying28 Tryd.underlying5 byte_c1 f5 with ⟨q5, _⟩ | ⟨a', len', cap', zs, q5, _, hl, hm, hz, hx5, _, _⟩
  · simp only [List.cons.injEq, and_true, Value.slice.injEq] at q5
    omega
  · simp only [List.cons.injEq, and_true, Value.slice.injEq] at q5
    obtain ⟨-, q6, q7⟩ := q5
    have hd5 : (xs.map (·.1))[5]? = some (.slice (lits .u8 (zs.take len')) (lits .u8 (zs.drop len'))) := by
      rw [List.getElem?_map, e5, hx5]; rfl
    have hs := sized_slice hwe (j := 5) (t := 28) (e := 5) rfl hd5 Tryd.underlying28
    rw [bytes_b1] at hs
    simp only [lits, List.length_map, List.length_take, List.length_drop, reachBytes] at hs
    simp at hz
    omega
end Bw
end Go.Proofs.YthdhhmflfdbkhaaDoor

/- What slices.Clone answers of frames: a row of its own. -/
namespace Go.Proofs.YthdhhmflfdbkhaaDoor
open Go.ChangeShapes Go.WideShapes Go.ChangeAt Go.RowKit
namespace Bw
open Bm
theorem info_frame : (Tryd.prog.info? 30).map (fun i => (i.zero, i.size, i.bytes)) = some (some (.agg #[.int .i64 0, .bool false, .bool false, .bool false, .int .i64 0, .slice none 0 0]), 6, 48) := by kernel_rfl
theorem bytes_frame : Tryd.prog.bytesOf 30 = 48 := by kernel_rfl
theorem frames_len {H : Type} {enc : TypeId × Value → H} {W : World} {a : Option Addr} {n cap : Nat} {fuel : Nat} {x : DataW H × List MemPlace}
    (hf : DataW.trod enc Tryd.prog W 0 (fun _ => true) true fuel 22 (Value.slice a n cap).cells.toList = some x)
    (hw : (DataW.weights Tryd.prog 22 x.1).all (· ≤ reachBytes) = true) : n * 48 ≤ 140737488351232 := by
  have hcv : (Value.slice a n cap).cells.toList = [.slice a n cap] := rfl
  rw [hcv] at hf
  rcases DataW.trod_slice Tryd.underlying22 hf with ⟨h0, _⟩ | ⟨y, len, cp, elems, rest, m, _, h0, hx, _, hl, hm, hlen, _, _, _⟩
  · simp only [List.cons.injEq, and_true, Value.slice.injEq] at h0
    omega
  · simp only [List.cons.injEq, and_true, Value.slice.injEq] at h0
    obtain ⟨_, rfl, rfl⟩ := h0
    subst hx
    unfold DataW.weights at hw
    simp only [Tryd.underlying22, List.all_cons, Bool.and_eq_true, bytes_frame, List.length_map] at hw
    have h1 := of_decide_eq_true hw.1
    unfold reachBytes at h1
    omega
/-- frames as cells -/
def frC (l : List FrV) : List Value := l.flatMap FrV.cells
theorem frC_length (l : List FrV) : (frC l).length = l.length * 6 := by
  induction l with
  | nil => rfl
  | cons v l ih => rw [frC, List.flatMap_cons, List.length_append]; show 6 + (frC l).length = _; rw [ih, List.length_cons]; omega
theorem frC_at (l : List FrV) : ∀ (i k : Nat) (hi : i < l.length) (hk : k < 6), (frC l)[i * 6 + k]? = some ((l[i].cells)[k]'hk) := by
  induction l with
  | nil => intro i k hi; exact absurd hi (Nat.not_lt_zero _)
  | cons v l ih =>
    intro i k hi hk
    have e : frC (v :: l) = v.cells ++ frC l := rfl
    have h6 : v.cells.length = 6 := rfl
    rw [e]
    cases i with
    | zero => rw [Nat.zero_mul, Nat.zero_add, List.getElem?_append_left (by omega), List.getElem?_eq_getElem (by omega)]; rfl
    | succ i =>
      rw [List.getElem?_append_right (by omega), h6, show (i + 1) * 6 + k - 6 = i * 6 + k by omega, ih i k (by simpa using hi) hk]
      rfl
theorem frC_idx (l : List FrV) (j : Nat) (u : Value) (h : (frC l)[j]? = some u) : ∃ i k, ∃ hi : i < l.length, ∃ hk : k < 6, j = i * 6 + k ∧ u = (l[i].cells)[k]'hk := by
  have hj : j < l.length * 6 := by
    rcases Nat.lt_or_ge j (l.length * 6) with x | x
    · exact x
    · rw [List.getElem?_eq_none (by rw [frC_length]; exact x)] at h; cases h
  refine ⟨j / 6, j % 6, by omega, Nat.mod_lt _ (by omega), by omega, ?_⟩
  have := frC_at l (j / 6) (j % 6) (by omega) (Nat.mod_lt _ (by omega))
  rw [show j / 6 * 6 + j % 6 = j by omega, h] at this
  exact Option.some.inj this
theorem frC_one (l : List FrV) : ∀ u ∈ frC l, u.oneCell' = true := by
  intro u hu
  obtain ⟨v, _, hv⟩ := List.mem_flatMap.1 hu
  unfold FrV.cells at hv
  simp only [List.mem_cons, List.not_mem_nil, or_false] at hv
  rcases hv with rfl | rfl | rfl | rfl | rfl | rfl <;> rfl
theorem eql_nil (w : World) (cap : Nat) : (binOp .eql 22 (.slice none 0 cap) (.slice none 0 0)).run Tryd.prog w = .ok (.bool true) w := by
  exact Lib.run_eql_slice_nil w 22 30 none 0 cap 0 0 Tryd.underlying22
theorem eql_some (w : World) (x : Addr) (n cap : Nat) : (binOp .eql 22 (.slice (some x) n cap) (.slice none 0 0)).run Tryd.prog w = .ok (.bool false) w := by
  exact Lib.run_eql_slice_nil w 22 30 (some x) n cap 0 0 Tryd.underlying22
set_option maxHeartbeats 4000000 in
set_option maxRecDepth 100000 in
theorem clone_nil (w : World) (cap : Nat) :
    Calls Tryd.prog 16 #[.slice none 0 cap] w fun e w' => e = .returned (.slice none 0 0) ∧ w' = w := by
  have he := eql_nil w cap
  go_enter Tryd.func16, Tryd.ntmps16
  go_wp2_with fail
  go_ret
  exact ⟨rfl, rfl⟩
set_option maxHeartbeats 4000000 in
set_option maxRecDepth 100000 in
theorem clone_some (x : Addr) (n cap : Nat) (l : List FrV) (w : World) (hF : IsFrames w (some x) n cap l) (hn : n * 48 ≤ 140737488351232) :
    Calls Tryd.prog 16 #[.slice (some x) n cap] w fun e w' => ∃ g c, e = .returned (.slice (some ⟨g, 0, none⟩) n c) ∧ w'.ownsRow w.heap.size 30 6 (.slice (some ⟨g, 0, none⟩) n c) n (frC l) ∧ Below w.heap.size w w' := by
  obtain ⟨i0, hi, hz0, hz1, hz2⟩ := info_parts info_frame
  have hmx : n ≤ maxLen := Nat.le_trans hF.le hF.max
  have hl := hF.len
  have HF := Hid.mk hF
  have HLE := Hid.mk (show (frC l).length = n * 6 by rw [frC_length, hl])
  have hcc : ∀ j u, (frC l)[j]? = some u → (w.alloc (.cells #[] 30)).cell? (x.add j) = some u := by
    intro j u hj
    obtain ⟨i, k, hi, hk, rfl, rfl⟩ := frC_idx l j u hj
    exact cell_kept ((Below.refl _ _).alloc (Nat.le_refl _) _) (hF.cell x rfl i hi k hk)
  have HCC := Hid.mk hcc
  have HB := Hid.mk (show Below w.heap.size w (w.alloc (.cells #[] 30)) from (Below.refl _ _).alloc (Nat.le_refl _) _)
  have HO := Hid.mk (show (w.alloc (.cells #[] 30)).ownsRow w.heap.size 30 6 (.slice (some ⟨w.heap.size, 0, none⟩) 0 0) 0 [] from World.ownsRow_made w #[] 0 (Nat.le_refl _) (Nat.zero_le _) rfl)
  have he := eql_some w x n cap
  clear hF hcc hl
  go_enter Tryd.func16, Tryd.ntmps16
  go_wp2_with (at_builtin; refine wpList_append_own _ rfl (.tmp 5) (.tmp 6) 22 rfl w.heap.size 30 i0 (.agg #[.int .i64 0, .bool false, .bool false, .bool false, .int .i64 0, .slice none 0 0]) 6 48 Tryd.underlying22 hi hz0 hz1 hz2 rfl (by decide) _ _ _ rfl HO.out x n cap (frC l) rfl HLE.out HCC.out (frC_one l) (by omega) (by omega) (by simp) ?_; intro v3 w3 hown3 hgrow3 hnil3)
  rw [Nat.zero_add, List.nil_append] at hown3
  obtain ⟨g, c, rfl⟩ : ∃ g c, v3 = .slice (some ⟨g, 0, none⟩) n c := by
    rcases hown3.2 with ⟨h1, _⟩ | ⟨g, c, cur, h1, _⟩
    · have h2 := hnil3.1 h1
      cases h2.1
    · exact ⟨g, c, h1⟩
  have hB3 : Below w.heap.size w w3 := Below.grown HB.out hgrow3 (by simp) (fun q hq => (HO.out.lt q hq).1)
  go_ret
  exact ⟨g, c, rfl, hown3, hB3⟩
end Bw
end Go.Proofs.YthdhhmflfdbkhaaDoor

/- Contracts of Go's library that the kit proves once, laid at this program: no walk, one application each. -/
namespace Go.Proofs
open Go.Shelf
def Tryd.lays112_ren : Go.Shelf.Ren := ⟨fun | 112 => 18 | n => n, fun | 28 => 36 | 3 => 3 | 4 => 4 | 0 => 0 | n => n, fun | n => n⟩
theorem Tryd.lays112 : Go.Proofs.Lays.n112 Tryd.prog Tryd.lays112_ren := {
  mixed := by kernel_rfl
  f112 := Tryd.func18.trans (congrArg some (by kernel_rfl))
  t0 := Tryd.underlying0
  a0 := Tryd.isAgg0
  z0 := Tryd.sizeOf0
  v0 := Tryd.zeroValue0
  t3 := Tryd.underlying3
  a3 := Tryd.isAgg3
  z3 := Tryd.sizeOf3
  v3 := Tryd.zeroValue3
  t4 := Tryd.underlying4
  a4 := Tryd.isAgg4
  z4 := Tryd.sizeOf4
  v4 := Tryd.zeroValue4
  t28 := Tryd.underlying36
  a28 := Tryd.isAgg36
  z28 := Tryd.sizeOf36
  v28 := Tryd.zeroValue36 }
open Go.RowKit Go.Lib Go.Sort in
theorem Tryd.slices_Reverse_int (blk off cap : Nat) (zs : List Int) (w : World) (hH : Holds (Value.int .i64) w blk off zs.toArray) (hsz : zs.length ≤ 9223372036854775807) :
    Calls Tryd.prog 18 #[.slice (some ⟨blk, off, none⟩) zs.length cap] w fun e w' => e = .returned (.tuple #[]) ∧ ∃ n, w' = putRow (Value.int .i64) (Sort.ahead w n) blk off zs.reverse.toArray := Any.slices_Reverse_int Tryd.lays112 blk off cap zs w hH hsz
end Go.Proofs

/- The kit's contract of slices.Reverse at a struct, laid at this program: no walk. -/
namespace Go.Proofs
open Go.Shelf
def Tryd.lays35r_ren : Go.Shelf.Ren := ⟨fun | 35 => 17 | n => n, fun | 22 => 22 | 23 => 30 | 3 => 3 | 4 => 4 | 0 => 0 | n => n, fun | n => n⟩
theorem Tryd.lays35r : Go.Proofs.SlLaysE0.n35 Tryd.prog Tryd.lays35r_ren := {
  mixed := by kernel_rfl
  f35 := ⟨Tryd.f17.name, by decide, Tryd.func17.trans (congrArg some (by kernel_rfl))⟩
  t0 := Tryd.underlying0
  a0 := Tryd.isAgg0
  z0 := Tryd.sizeOf0
  v0 := Tryd.zeroValue0
  t3 := Tryd.underlying3
  a3 := Tryd.isAgg3
  z3 := Tryd.sizeOf3
  v3 := Tryd.zeroValue3
  t4 := Tryd.underlying4
  a4 := Tryd.isAgg4
  z4 := Tryd.sizeOf4
  v4 := Tryd.zeroValue4
  t22 := Tryd.underlying22
  a22 := Tryd.isAgg22
  z22 := Tryd.sizeOf22
  v22 := Tryd.zeroValue22 }
end Go.Proofs

/- What slices.Reverse makes of a row of frames, and of a row of numbers. -/
namespace Go.Proofs.YthdhhmflfdbkhaaDoor
open Go.ChangeShapes Go.WideShapes Go.ChangeAt Go.RowKit
namespace Bw
open Bm Go.Sort
theorem put_tch {α : Type} [Inhabited α] (enc : α → Value) (w : World) (n g off : Nat) (d : Array α) : Tch [g] w (Sort.putRow enc (Sort.ahead w n) g off d) := by
  refine ⟨rfl, rfl, rfl, by simp [Sort.ahead], fun k hk hg => ?_⟩
  have hne : g ≠ k := by intro e; exact hg (by simp [e])
  show (w.heap.modify g _)[k]? = w.heap[k]?
  rw [Array.getElem?_modify, if_neg hne]
theorem revF_any (base g n c : Nat) (l : List FrV) (w : World) (hl : l.length = n) (hn : n ≤ maxLen) (ho : w.ownsRow base 30 6 (.slice (some ⟨g, 0, none⟩) n c) n (frC l)) :
    Calls Tryd.prog 17 #[.slice (some ⟨g, 0, none⟩) n c] w fun e w' => e = .returned (.tuple #[]) ∧ (∀ i (hi : i < l.reverse.length) k (hk : k < 6), w'.cell? ⟨g, i * 6 + k, none⟩ = some ((l.reverse[i].cells)[k]'hk)) ∧ Tch [g] w w' := by
  haveI : Inhabited FrV := ⟨⟨⟨0, false, false, false, 0, []⟩, none, 0, 0⟩⟩
  have hH : HoldsK FrV.cells 6 w g 0 l.toArray := by
    intro j hj
    have hj2 : j < l.length * 6 := by simpa [size_flatK] using hj
    have hi : j / 6 < l.length := by omega
    have hk : j % 6 < 6 := Nat.mod_lt _ (by omega)
    refine ⟨?_, ?_⟩
    · rw [Nat.zero_add, ho.cellAt j (by omega)]
      have h1 := frC_at l (j / 6) (j % 6) hi hk
      rw [show j / 6 * 6 + j % 6 = j by omega] at h1
      rw [h1]
      have h2 := get_flatK FrV.cells 6 l.toArray j (by simpa using hj2)
      rw [id, h2]
      have e1 : l.toArray[j / 6]! = l[j / 6] := by simp [hi]
      rw [e1, getElem!_pos l[j / 6].cells (j % 6) (by exact hk)]
    · rw [Nat.zero_add]; exact ho.frozenAt j
  have h := AnyQ.slices_Reverse Tryd.lays35r 6 Tryd.isAgg30 Tryd.sizeOf30 FrV.cells (fun _ => rfl) (fun v u hu => frC_one [v] u (by simpa [frC] using hu)) g 0 c l.toArray w hH (by unfold maxLen at hn; simp; omega)
  rw [show l.toArray.size = n by simpa using hl] at h
  refine h.mono ?_
  rintro e w' ⟨rfl, m, rfl⟩
  refine ⟨rfl, fun i hi k hk => ?_, put_tch _ _ _ _ _ _⟩
  have h2 := holdsK_putRowK FrV.cells 6 (Sort.ahead w m) g 0 l.toArray l.toArray.reverse hH (by simp)
  have h3 := (h2.cell (i := i) (c := k) (by simpa using hi) hk).1
  rw [Nat.zero_add] at h3
  rw [h3]
  have e1 : l.toArray.reverse[i]! = l.reverse[i] := by
    rw [List.reverse_toArray, getElem!_pos l.reverse.toArray i (by simpa using hi)]
    rfl
  rw [e1, getElem!_pos _ k (by exact hk)]
theorem revN_any (base g n : Nat) (l : List Int) (w : World) (hl : l.length = n) (hn : n ≤ 1000) (ho : w.ownsRow base 3 1 (.slice (some ⟨g, 0, none⟩) n n) n (intC l)) :
    Calls Tryd.prog 18 #[.slice (some ⟨g, 0, none⟩) n n] w fun e w' => e = .returned (.tuple #[]) ∧ NumsAt w' g 0 l.reverse ∧ Tch [g] w w' := by
  have hH : Sort.Holds (Value.int .i64) w g 0 l.toArray := by
    intro j hj
    have hj2 : j < l.length := by simpa using hj
    refine ⟨?_, ?_⟩
    · have := nums_of ho j hj2
      rw [this]
      simp [List.getD, hj2]
    · rw [Nat.zero_add]; exact ho.frozenAt j
  have h := Tryd.slices_Reverse_int g 0 n l w hH (by omega)
  rw [hl] at h
  refine h.mono ?_
  rintro e w' ⟨rfl, m, rfl⟩
  refine ⟨rfl, fun i hi => ?_, put_tch _ _ _ _ _ _⟩
  have h2 := Sort.holds_putRow (Value.int .i64) (Sort.ahead w m) g 0 l.toArray l.reverse.toArray hH (by simp)
  have h3 := (h2 i (by simpa using hi)).1
  rw [h3]
  have hi2 : i < l.length := by simpa using hi
  simp [List.getD, hi2]
end Bw
end Go.Proofs.YthdhhmflfdbkhaaDoor

/- What slices.Equal answers of two slices that hold the same numbers: true. -/
namespace Go.Proofs.YthdhhmflfdbkhaaDoor
open Go.ChangeShapes Go.WideShapes Go.ChangeAt Go.RowKit
namespace Bw
open Bm
set_option maxHeartbeats 1000000 in
theorem equalN_true (w : World) (g h n c d : Nat) (xs : List Int) (hx : xs.length = n) (hn : n ≤ 1000) (ha : NumsAt w g 0 xs) (hb : NumsAt w h 0 xs) :
    Calls Tryd.prog 19 #[.slice (some ⟨g, 0, none⟩) n c, .slice (some ⟨h, 0, none⟩) n d] w fun e w' => e = .returned (.bool true) ∧ Below w.heap.size w w' := by
  have HA := Hid.mk ha
  have HB := Hid.mk hb
  have HX := Hid.mk hx
  clear ha hb hx
  go_enter Tryd.func19, Tryd.ntmps19
  go_wp2
  go_loopw [13] (fun i w' => ∃ k : Nat, k ≤ n ∧ i = .int .i64 k ∧ ∃ m, w' = w.drewN m) (fun i _ => n - (intOf i).toNat)
  case atStart => exact ⟨0, Nat.zero_le _, rfl, 0, rfl⟩
  case round =>
    obtain ⟨k, hk, rfl, m, rfl⟩ := hrel
    by_cases hlt : k < n
    · have g1 := HA.out k (by rw [HX.out]; exact hlt)
      have g2 := HB.out k (by rw [HX.out]; exact hlt)
      simp only [Nat.zero_add] at g1 g2
      generalize xs.getD k 0 = y at *
      have hlt' : (k : Int) < (n : Int) := by omega
      go_wp2
      go_quiet (fail)
      go_wp2
      go_roundw
      case rel => exact ⟨k + 1, by omega, by go_num, _, rfl⟩
      case measure => simp [intOf]; omega
    · go_wp2
      go_ret
      exact ⟨rfl, ⟨rfl, rfl, rfl, Nat.le_refl _, fun _ _ => rfl⟩⟩
end Bw
end Go.Proofs.YthdhhmflfdbkhaaDoor

/- The closed fact that each law of the wire asks for: two frames at a time. -/
namespace Go.Proofs.YthdhhmflfdbkhaaDoor
open Go.ChangeShapes Go.WideShapes Go.ChangeAt Go.RowKit
namespace Bw
open Bm Cm
def w6 : FrV := ⟨⟨6, false, false, false, 0, []⟩, none, 0, 0⟩
def w5 : FrV := ⟨⟨5, false, false, false, 0, []⟩, none, 0, 0⟩
theorem w65_send : sendE [w6, w5] = 0 := by decide +kernel
theorem w65_best : bestL [w6, w5] = bitsL w5.f := by decide +kernel
theorem w65_difs : difsL [w6, w5] = [11, -1] := by decide +kernel
theorem w5_ok : frE w5.f = 0 := by decide +kernel
def w65C : Obj := .cells #[.int .i64 6, .bool false, .bool false, .bool false, .int .i64 0, .slice none 0 0, .int .i64 5, .bool false, .bool false, .bool false, .int .i64 0, .slice none 0 0] 30
theorem w65_frames (w : World) : IsFrames (w.alloc w65C) (some ⟨w.heap.size, 0, none⟩) 2 2 [w6, w5] := by
  refine ⟨rfl, Nat.le_refl _, by unfold maxLen; decide, (fun h => by cases h), ?_, ?_⟩
  · intro x hx i hi k hk
    cases hx
    have e : ∀ j, (Addr.add ⟨w.heap.size, 0, none⟩ j) = ⟨w.heap.size, j, none⟩ := by intro j; simp [Addr.add]; exact fun h => h.symm
    rw [e, cell_of_row _ _ _ _ _ _ (heap_alloc_new w w65C)]
    have hi2 : i < 2 := hi
    match i, hi2, k, hk with
    | 0, _, 0, _ => rfl
    | 0, _, 1, _ => rfl
    | 0, _, 2, _ => rfl
    | 0, _, 3, _ => rfl
    | 0, _, 4, _ => rfl
    | 0, _, 5, _ => rfl
    | 1, _, 0, _ => rfl
    | 1, _, 1, _ => rfl
    | 1, _, 2, _ => rfl
    | 1, _, 3, _ => rfl
    | 1, _, 4, _ => rfl
    | 1, _, 5, _ => rfl
  · intro i hi
    have hi2 : i < 2 := hi
    match i, hi2 with
    | 0, _ => exact ⟨rfl, Nat.le_refl _, Nat.zero_le _, fun _ => rfl, fun x hx => by cases hx⟩
    | 1, _ => exact ⟨rfl, Nat.le_refl _, Nat.zero_le _, fun _ => rfl, fun x hx => by cases hx⟩
def n11C : Obj := .cells #[.int .i64 11, .int .i64 (-1)] 3
theorem n11_nums (w : World) : NumsAt (w.alloc n11C) w.heap.size 0 [11, -1] := by
  intro i hi
  rw [Nat.zero_add, cell_of_row _ _ _ _ _ _ (heap_alloc_new w n11C)]
  have hi2 : i < 2 := hi
  match i, hi2 with
  | 0, _ => rfl
  | 1, _ => rfl
set_option maxHeartbeats 8000000 in
theorem wired_any (w : World) (hS : SizesAt w) (hR : RulesAt w) :
    Calls Tryd.prog 7 #[] w fun e w' => e = .returned (.bool true) ∧ Below w.heap.size w w' := by
  have hB0 : Below w.heap.size w (w.alloc w65C) := (Below.refl _ _).alloc (Nat.le_refl _) _
  have a1 := (send_any (some ⟨w.heap.size, 0, none⟩) 2 2 [w6, w5] _ (hS.kept hB0) (hR.kept hB0) (w65_frames w)).mono (fun _ _ h => And.intro (h.2.1 w65_send) h.2.2)
  rw [w65_best, w65_difs] at a1
  have e1 : idxG ([11, -1] : List Int) (-1) = 1 := by decide
  rw [e1] at a1
  have a2 := fun W h1 h2 => frBits_ok w5.f none 0 0 W h1 h2 ⟨rfl, Nat.le_refl _, Nat.zero_le _, fun _ => rfl, fun x hx => by cases hx⟩ w5_ok
  have a3 := fun W g h h1 h2 => equalN_true W g h 2 2 2 [11, -1] rfl (by decide) h1 h2
  have h11 := fun W => n11_nums W
  have b11 : ∀ W : World, Below W.heap.size W (W.alloc n11C) := fun W => (Below.refl _ _).alloc (Nat.le_refl _) _
  generalize ByteArray.mk (bitsL w5.f).toArray = X at *
  unfold w65C at a1 hB0
  unfold frameV w5 at a2
  unfold n11C at h11 b11
  simp only at a2
  have HA1 := Hid.mk a1
  have HA2 := Hid.mk a2
  have HA3 := Hid.mk a3
  have H11 := Hid.mk h11
  have B11 := Hid.mk b11
  have HB := Hid.mk hB0
  have HS := Hid.mk hS
  have HR := Hid.mk hR
  clear a1 a2 a3 h11 b11 hB0 hS hR e1
  go_enter Tryd.func7, Tryd.ntmps7
  go_wp2_with fail
  refine HA1.out.mono ?_
  rintro e w1 ⟨⟨g, rfl, hown⟩, hb1⟩
  have HB1 := Hid.mk (bl2 HB.out hb1)
  have HO := Hid.mk hown
  clear hown hb1
  go_wp2_with fail
  refine (HA2.out _ (HS.out.kept HB1.out) (HR.out.kept HB1.out)).mono ?_
  rintro e w2 ⟨rfl, hb2⟩
  have HB2 := Hid.mk (bl2 HB1.out hb2)
  have HO2 := Hid.mk (ownsRow_below HO.out hb2)
  clear hb2
  go_wp2_with fail
  refine (HA3.out _ _ _ (nums_of (HO2.out.alloc _)) (H11.out _)).mono ?_
  rintro e w3 ⟨rfl, hb3⟩
  have HB3 := Hid.mk (bl2 (bl2 HB2.out (B11.out _)) hb3)
  clear hb3
  go_wp2_with fail
  go_ret
  exact ⟨rfl, HB3.out⟩
end Bw
end Go.Proofs.YthdhhmflfdbkhaaDoor

/- The table of the numbers of bytes off the row's own condition. -/
namespace Go.Proofs.YthdhhmflfdbkhaaDoor
open Go.ChangeShapes Go.WideShapes Go.ChangeAt Go.RowKit
namespace Bw
theorem fsz_eq : Rows.laid_omnibus_frame_sizes (H := Unit) = Lib.tabData .i64 sizesI := by kernel_rfl
theorem fsz_t : Tryd.prog.underlying 95 = some (.array 16 3) := by kernel_rfl
theorem fsz_c : Tryd.prog.cellsOf 95 = 16 := by kernel_rfl
theorem fsz_c1 : Tryd.prog.cellsOf 3 = 1 := by kernel_rfl
theorem fsz_g : Tryd.prog.globalNamed "omnibus/frame.sizes" = some 1 := by kernel_rfl
theorem fsz_y : (Tryd.prog.globals[1]?).map (·.type) = some 95 := by kernel_rfl
theorem sizes_of {W : World} {laid : List (String × DataW Unit)} (hL : laidMet Tryd.prog laid W)
    (h1 : ("omnibus/frame.sizes", Rows.laid_omnibus_frame_sizes) ∈ laid) : SizesAt W := by
  obtain ⟨g, t, cs, fuel, p, hg, hty, hvar, hd⟩ := Lib.laidMet.reads hL h1
  obtain rfl := Option.some.inj (fsz_g.symm.trans hg)
  obtain rfl := Option.some.inj (fsz_y.symm.trans hty)
  rw [fsz_eq] at hd
  have hcs := Lib.cells_of_tab fsz_t Tryd.underlying3 fsz_c1 fsz_c hd
  intro i hi
  have := World.var?_cell hg hvar i
  rw [this, ← Array.getElem?_toList, hcs]
  rw [List.getElem?_map, List.getElem?_eq_getElem hi]
  simp [List.getD, hi]
end Bw
end Go.Proofs.YthdhhmflfdbkhaaDoor

/- The table of kinds off the row's own condition: its cells hold the sizes, polynomials, starts and ends. -/
namespace Go.Proofs.YthdhhmflfdbkhaaDoor
open Go.ChangeShapes Go.WideShapes Go.ChangeAt Go.RowKit
namespace Bw
open Cm
def ruleZ (k : Nat) : List Int := [(kS k : Int), (kP k : Int), (kF k : Int), (kE k : Int)]
def rulesD : List (DataW Unit) := [0, 1, 2, 3, 4].map fun k => .agg ((ruleZ k).map fun z => .lit (.int .i64 z))
theorem five_at (k : Nat) (hk : k ≤ 4) : [0, 1, 2, 3, 4][k]? = some k := by
  match k, hk with
  | 0, _ => rfl
  | 1, _ => rfl
  | 2, _ => rfl
  | 3, _ => rfl
  | 4, _ => rfl
theorem rulesD_at (k : Nat) (hk : k ≤ 4) : rulesD[k]? = some (.agg ((ruleZ k).map fun z => .lit (.int .i64 z))) := by
  rw [rulesD, List.getElem?_map, five_at k hk]; rfl
theorem rules_eq : Rows.laid_omnibus_check_rules (H := Unit) = .agg rulesD := by kernel_rfl
theorem rules_t : Tryd.prog.underlying 83 = some (.array 5 82) := by kernel_rfl
theorem rule_c : Tryd.prog.cellsOf 82 = 4 := by kernel_rfl
theorem int_c : Tryd.prog.cellsOf 3 = 1 := by kernel_rfl
theorem rules_g : Tryd.prog.globalNamed "omnibus/check.rules" = some 0 := by kernel_rfl
theorem rules_y : (Tryd.prog.globals[0]?).map (·.type) = some 83 := by kernel_rfl
theorem rules_of {W : World} {laid : List (String × DataW Unit)} (hL : laidMet Tryd.prog laid W)
    (h1 : ("omnibus/check.rules", Rows.laid_omnibus_check_rules) ∈ laid) : RulesAt W := by
  obtain ⟨g, t, cs, fuel, p, hg, hty, hvar, hd⟩ := Lib.laidMet.reads hL h1
  obtain rfl := Option.some.inj (rules_g.symm.trans hg)
  obtain rfl := Option.some.inj (rules_y.symm.trans hty)
  rw [rules_eq] at hd
  intro k hk
  obtain ⟨fuel', d, q, hdk, htr⟩ := Lib.array_elem rules_t hd k (by omega)
  have hdd : d = .agg ((ruleZ k).map fun z => .lit (.int .i64 z)) := by
    have := rulesD_at k hk
    rw [hdk] at this
    exact Option.some.inj this
  subst hdd
  have hz := Lib.ints_of_struct Tryd.underlying82 (by
    intro i f h
    match i, h with
    | 0, h => cases h; exact ⟨Tryd.underlying3, rfl, int_c⟩
    | 1, h => cases h; exact ⟨Tryd.underlying3, rfl, int_c⟩
    | 2, h => cases h; exact ⟨Tryd.underlying3, rfl, int_c⟩
    | 3, h => cases h; exact ⟨Tryd.underlying3, rfl, int_c⟩
    | i + 4, h => simp at h) rule_c htr
  rw [rule_c] at hz
  have hc : ∀ j, j < 4 → cs[k * 4 + j]? = ((ruleZ k).map fun z => Value.int .i64 z)[j]? := by
    intro j hj
    rw [← hz, List.getElem?_take_of_lt hj, List.getElem?_drop, Array.getElem?_toList]
  have hv := fun j => World.var?_cell hg hvar j
  refine ⟨?_, ?_, ?_, ?_⟩
  · rw [hv, ← Nat.add_zero (k * 4), hc 0 (by omega)]; rfl
  · rw [hv, hc 1 (by omega)]; rfl
  · rw [hv, hc 2 (by omega)]; rfl
  · rw [hv, hc 3 (by omega)]; rfl
end Bw
end Go.Proofs.YthdhhmflfdbkhaaDoor
