/- Joined out of our texts: FrBack, WireApart, WSend, EqualN, Wired. -/
import Derived.Test.YthdhhmflfdbkhaaDoorLawWireFirstPAH
import Derived.Test.YthdhhmflfdbkhaaDoorLawWireFirstPAK
import Derived.Test.YthdhhmflfdbkhaaDoorLawWireFirstPAF
import Derived.Test.YthdhhmflfdbkhaaDoorLawWireFirstPAC
import Derived.Test.YthdhhmflfdbkhaaDoorLawWireFirstPAG
import Derived.Test.YthdhhmflfdbkhaaDoorLawWireFirstPAD
/- What is sent is read by frame.Read, whatever follows. -/
namespace Go.Proofs.YthdhhmflfdbkhaaDoor
open Go.ChangeShapes Go.WideShapes Go.ChangeAt Go.RowKit
namespace Bw
open Bm Cm

theorem fixR_row (l : List UInt8) (a : UInt8) (hl : rowB l = true) : ∀ i, i ≤ l.length → rowB (fixR l a i) = true
  | 0, _ => rfl
  | i + 1, h => by
    have ih := fixR_row l a hl i (by omega)
    have hb : bit (l.getD i 0) = true := by
      have hi : i < l.length := by omega
      rw [List.getD, List.getElem?_eq_getElem hi, Option.getD_some]
      exact rowB_all.1 hl _ (List.getElem_mem hi)
    rw [fixR, rowB_snoc, hb, Bool.and_true]
    split
    · rw [rowB_snoc, ih, otb_bit]; rfl
    · exact ih
theorem fixedL_row (p : List UInt8) (q n : Nat) : rowB (fixedL p q n) = true := by
  unfold fixedL fixL
  exact fixR_row _ _ (by rw [rowB_append, (gray_row _ (Nat.mod_lt _ (by omega))).1, sumL_row]; rfl) _ (Nat.le_refl _)
theorem preL_row (f : Fr) : rowB (preL f) = true := by
  unfold preL
  split
  · rw [rowB_append, putF_row _ (headL_row f), fastL_fixed, fixedL_row]; rfl
  · exact putF_row _ (by rw [rowB_append, headL_row, sumL_row]; rfl)
theorem preL_len (f : Fr) (hE : frE f = 0) : 1 ≤ (preL f).length ∧ (preL f).length ≤ 750 := by
  obtain ⟨-, -, -, -, -, -, e7, e8, -⟩ := frE_ok hE
  obtain ⟨h1, h2⟩ := headL_le f e7
  unfold preL
  split
  · obtain ⟨k, hk1, hk2⟩ := putF_most (headL f) (headL_row f)
    rw [List.length_append, fastL_fixed, fixedL_len]
    split <;> omega
  · obtain ⟨k, hk1, hk2⟩ := putF_most (headL f ++ sumL 0 (headL f)) (by rw [rowB_append, headL_row, sumL_row]; rfl)
    have hs : (sumL 0 (headL f)).length = 15 := sumL_len 0 _
    rw [List.length_append, hs] at hk1 hk2
    omega
theorem bitsL_len (f : Fr) : (bitsL f).length = (preL f).length + 10 := by rw [bitsL_pre, List.length_append]; rfl
theorem bitsL_row (f : Fr) : rowB (bitsL f) = true := by rw [bitsL_pre, rowB_append, preL_row]; rfl

theorem readBack_any (f : Fr) (e rest : List UInt8) (T : ByteArray) (w : World) (hS : SizesAt w) (hR : RulesAt w) (hE : frE f = 0) (he : e = onesL ∨ e = heardL) (hT : T.data.toList = preL f ++ (e ++ rest)) (hr : rowB rest = true) (hn : T.size ≤ 1000) :
    Calls Tryd.prog 14 #[.string T] w fun x w' => ∃ a len cap, x = .returned (.tuple #[frameV f.id f.lo f.fa f.re f.sz a len cap, .int .i64 ((preL f).length + 10 : Nat), .int .i64 0]) ∧ IsBytes w' a len cap f.dt ∧ Below w.heap.size w w' := by
  have her : rowB e = true := by rcases he with rfl | rfl <;> rfl
  have hrow : rowB T.data.toList = true := by rw [hT, rowB_append, rowB_append, preL_row, her, hr]; rfl
  have hl : T.data.toList.length = T.size := by simp
  have hc := checkE_row hrow (by omega)
  obtain ⟨b1, b2, b3⟩ := read_back f e rest hE he
  rw [← hT] at b1 b2 b3
  refine (read_ok T w hS hR hc).mono ?_
  rintro x w' ⟨-, h2, h3⟩
  obtain ⟨a, len, cap, hx, hby⟩ := h2 b1
  rw [b2, b3] at hx
  rw [b3] at hby
  exact ⟨a, len, cap, hx, hby, h3⟩
end Bw
end Go.Proofs.YthdhhmflfdbkhaaDoor

/- No frame's bits begin with another one's, so of several frames' bits none does; plain facts on lists; of no program. -/
namespace Go.Proofs.YthdhhmflfdbkhaaDoor
namespace Bw
open Bm Cm
theorem bits_begins (f g : Fr) (hf : frE f = 0) (hg : frE g = 0) (h : bitsL f <+: bitsL g) : f = g := by
  obtain ⟨rest, hr⟩ := h
  have h1 := (read_back g onesL [] hg (.inl rfl)).2.2
  have h2 := (read_back f onesL rest hf (.inl rfl)).2.2
  rw [List.append_nil, ← bitsL_pre, ← hr, bitsL_pre, List.append_assoc] at h1
  rw [h2] at h1
  exact h1
theorem rows_apart (fs : List Fr) (h : ∀ f ∈ fs, frE f = 0) : Apart (fs.map bitsL) := by
  intro a ha b hb hab
  obtain ⟨f, hf, rfl⟩ := List.mem_map.1 ha
  obtain ⟨g, hg, rfl⟩ := List.mem_map.1 hb
  rw [bits_begins f g (h f hf) (h g hg) hab]
end Bw
end Go.Proofs.YthdhhmflfdbkhaaDoor

/- What wire.Send answers of any frames. -/
namespace Go.Proofs.YthdhhmflfdbkhaaDoor
open Go.ChangeShapes Go.WideShapes Go.ChangeAt Go.RowKit
namespace Bw
open Bm Cm
/-- the bits of frames; the least of them; where each of them parts from it -/
def rowsL (l : List FrV) : List (List UInt8) := l.map fun v => bitsL v.f
def bestL (l : List FrV) : List UInt8 := minL (rowsL l)
def difsL (l : List FrV) : List Int := (rowsL l).map fun r => dif r (bestL l)
/-- the error that Send tells -/
def sendE (l : List FrV) : Int := if 6 < l.length then 2 else if l.length = 0 then 8 else if firE (l.map (·.f)) ≠ 0 then firE (l.map (·.f)) else onlyE (difsL l) (-1)
theorem results_four (f : Func) (tmps : Array Value) (P : Program) (w : World) (a b c d : Nat) (h : f.results = #[.tmp a, .tmp b, .tmp c, .tmp d]) :
    (results f tmps).run P w = .ok (.tuple #[tmps.getD a undef, tmps.getD b undef, tmps.getD c undef, tmps.getD d undef]) w := by
  simp [results, h]
theorem rows_facts (l : List FrV) (hz : firE (l.map (·.f)) = 0) (hl : l.length ≠ 0) : (∀ r ∈ rowsL l, r.length ≤ 900) ∧ (∀ r ∈ rowsL l, rowB r = true) ∧ Apart (rowsL l) ∧ Least (rowsL l) (bestL l) := by
  have hz' := (firE_zero _).1 hz
  have hall : ∀ v ∈ l, frE v.f = 0 := fun v hv => hz' v.f (List.mem_map.2 ⟨v, hv, rfl⟩)
  refine ⟨fun r hr => ?_, fun r hr => ?_, ?_, ?_⟩
  · obtain ⟨v, hv, rfl⟩ := List.mem_map.1 hr
    have h1 := bitsL_len v.f
    have h2 := preL_len v.f (hall v hv)
    omega
  · obtain ⟨v, hv, rfl⟩ := List.mem_map.1 hr
    exact bitsL_row v.f
  · have := rows_apart (l.map (·.f)) (fun f hf => hz' f hf)
    rw [List.map_map] at this
    exact this
  · refine minL_least (rowsL l) (fun h => hl ?_)
    have := congrArg List.length h
    simpa [rowsL] using this
set_option maxHeartbeats 2000000 in
theorem send_many (a : Option Addr) (n cap : Nat) (w : World) (h : 6 < n) :
    Calls Tryd.prog 12 #[.slice a n cap] w fun e w' => e = .returned (.tuple #[.string ⟨#[]⟩, .int .i64 0, .slice none 0 0, .int .i64 2]) ∧ w' = w := by
  have h2 : (6 : Int) < (n : Int) := by omega
  go_enter Tryd.func12, Tryd.ntmps12
  go_wp2_with fail
  refine bodyPost_ret (results_four _ _ _ _ 2 3 4 5 rfl) rfl ?_
  exact ⟨rfl, rfl⟩
set_option maxHeartbeats 2000000 in
theorem send_none (a : Option Addr) (n cap : Nat) (w : World) (h : n = 0) :
    Calls Tryd.prog 12 #[.slice a n cap] w fun e w' => e = .returned (.tuple #[.string ⟨#[]⟩, .int .i64 0, .slice none 0 0, .int .i64 8]) ∧ w' = w := by
  subst h
  go_enter Tryd.func12, Tryd.ntmps12
  go_wp2_with fail
  refine bodyPost_ret (results_four _ _ _ _ 2 3 4 5 rfl) rfl ?_
  exact ⟨rfl, rfl⟩
set_option maxHeartbeats 2000000 in
theorem send_bad (a : Option Addr) (n cap : Nat) (l : List FrV) (w : World) (hS : SizesAt w) (hR : RulesAt w) (hF : IsFrames w a n cap l) (h0 : 0 < n) (h6 : n ≤ 6) (hz : firE (l.map (·.f)) ≠ 0) :
    Calls Tryd.prog 12 #[.slice a n cap] w fun e w' => e = .returned (.tuple #[.string ⟨#[]⟩, .int .i64 0, .slice none 0 0, .int .i64 (firE (l.map (·.f)))]) ∧ Below w.heap.size w w' := by
  have ha := (eachBits_any a n cap l w hS hR hF h6).mono (fun _ _ h => And.intro (h.1 hz) h.2.2)
  have HE := Hid.mk ha
  have hne : (firE (l.map (·.f)) != 0) = true := by simpa using hz
  have h0' : ((n : Int) == 0) = false := by rw [beq_eq_false_iff_ne]; omega
  have h6' : (n : Int) ≤ 6 := by omega
  generalize firE (l.map (·.f)) = ce at *
  clear ha hS hR hF hz
  go_enter Tryd.func12, Tryd.ntmps12
  go_wp2_with fail
  refine HE.out.mono ?_
  rintro e w1 ⟨rfl, hb1⟩
  go_wp2_with fail
  refine bodyPost_ret (results_four _ _ _ _ 2 3 4 5 rfl) rfl ?_
  exact ⟨rfl, hb1⟩
theorem owns_lower {w : World} {b1 b2 : Nat} {e : TypeId} {size : Nat} {v : Value} {n : Nat} {xs : List Value} (h : w.ownsRow b1 e size v n xs) (hb : b2 ≤ b1) : w.ownsRow b2 e size v n xs := by
  obtain ⟨h1, h2⟩ := h
  refine ⟨h1, ?_⟩
  rcases h2 with h2 | ⟨g, cap, cur, hv, hg, r⟩
  · exact Or.inl h2
  · exact Or.inr ⟨g, cap, cur, hv, Nat.le_trans hb hg, r⟩
set_option maxHeartbeats 4000000 in
theorem send_twice (a : Option Addr) (n cap : Nat) (l : List FrV) (w : World) (hS : SizesAt w) (hR : RulesAt w) (hF : IsFrames w a n cap l) (h0 : 0 < n) (h6 : n ≤ 6) (hz : firE (l.map (·.f)) = 0) (hO : onlyE (difsL l) (-1) ≠ 0) :
    Calls Tryd.prog 12 #[.slice a n cap] w fun e w' => e = .returned (.tuple #[.string ⟨#[]⟩, .int .i64 0, .slice none 0 0, .int .i64 (onlyE (difsL l) (-1))]) ∧ Below w.heap.size w w' := by
  obtain ⟨hlen, hrow, hA, hL⟩ := rows_facts l hz (by rw [hF.len]; omega)
  have hrl : (rowsL l).length = n := by rw [rowsL, List.length_map, hF.len]
  have hdl : (difsL l).length = n := by rw [difsL, List.length_map, hrl]
  have ha := (eachBits_any a n cap l w hS hR hF h6).mono (fun _ _ h => And.intro (h.2.1 hz) h.2.2)
  have hc := fun gr cr W hX => contest_any gr cr n (rowsL l) (bestL l) W hrl (by omega) h6 hlen hrow hA hL hX
  have ho := fun g W hX => onlyI_any g n n (difsL l) (-1) W hdl h6 (Nat.le_refl _) hX
  have hN : onlyN (difsL l) (-1) = 0 := by unfold onlyN; rw [if_neg hO]
  have HRO := Hid.mk (show strC (l.map fun v => bitsL v.f) = strC (rowsL l) from rfl)
  have HDI := Hid.mk (show intC ((rowsL l).map fun r => dif r (bestL l)) = intC (difsL l) from rfl)
  rw [hN] at ho
  have hne : (onlyE (difsL l) (-1) != 0) = true := by simpa using hO
  have h0' : ((n : Int) == 0) = false := by rw [beq_eq_false_iff_ne]; omega
  have h6' : (n : Int) ≤ 6 := by omega
  generalize onlyE (difsL l) (-1) = ce at *
  have HE := Hid.mk ha
  have HC := Hid.mk hc
  have HO := Hid.mk ho
  clear ha hc ho hS hR hF hlen hrow hA hL hrl hdl hN hO hz
  generalize ByteArray.mk (bestL l).toArray = BT at *
  go_enter Tryd.func12, Tryd.ntmps12
  go_wp2_with fail
  refine HE.out.mono ?_
  rintro e w1 ⟨⟨rv, rfl, hown⟩, hb1⟩
  rw [HRO.out] at hown
  obtain ⟨gr, cr, rfl, -, -⟩ := owns_some hown h0
  have HX := Hid.mk (strs_of hown)
  have HB1 := Hid.mk hb1
  clear hown hb1
  go_wp2_with fail
  refine (HC.out _ _ _ HX.out).mono ?_
  rintro e w2 ⟨rfl, hown2, hb2⟩
  rw [HDI.out] at hown2
  have HY := Hid.mk (nums_of hown2)
  have HW2 := Hid.mk hown2
  have HB2 := Hid.mk (bl2 HB1.out hb2)
  have HSZ := Hid.mk HB1.out.size
  clear hown2 hb2
  go_wp2_with fail
  refine (HO.out _ _ HY.out).mono ?_
  rintro e w3 ⟨rfl, hw3⟩
  subst hw3
  go_wp2_with fail
  refine bodyPost_ret (results_four _ _ _ _ 2 3 4 5 rfl) rfl ?_
  exact ⟨rfl, HB2.out⟩
set_option maxHeartbeats 4000000 in
theorem send_ok (a : Option Addr) (n cap : Nat) (l : List FrV) (w : World) (hS : SizesAt w) (hR : RulesAt w) (hF : IsFrames w a n cap l) (h0 : 0 < n) (h6 : n ≤ 6) (hz : firE (l.map (·.f)) = 0) (hO : onlyE (difsL l) (-1) = 0) :
    Calls Tryd.prog 12 #[.slice a n cap] w fun e w' => ∃ g, e = .returned (.tuple #[.string ⟨(bestL l).toArray⟩, .int .i64 (idxG (difsL l) (-1)), .slice (some ⟨g, 0, none⟩) n n, .int .i64 0]) ∧ w'.ownsRow w.heap.size 3 1 (.slice (some ⟨g, 0, none⟩) n n) n (intC (difsL l)) ∧ Below w.heap.size w w' := by
  obtain ⟨hlen, hrow, hA, hL⟩ := rows_facts l hz (by rw [hF.len]; omega)
  have hrl : (rowsL l).length = n := by rw [rowsL, List.length_map, hF.len]
  have hdl : (difsL l).length = n := by rw [difsL, List.length_map, hrl]
  have ha := (eachBits_any a n cap l w hS hR hF h6).mono (fun _ _ h => And.intro (h.2.1 hz) h.2.2)
  have hc := fun gr cr W hX => contest_any gr cr n (rowsL l) (bestL l) W hrl (by omega) h6 hlen hrow hA hL hX
  have ho := fun g W hX => onlyI_any g n n (difsL l) (-1) W hdl h6 (Nat.le_refl _) hX
  have hN : onlyN (difsL l) (-1) = idxG (difsL l) (-1) := by unfold onlyN; rw [if_pos hO]
  have HRO := Hid.mk (show strC (l.map fun v => bitsL v.f) = strC (rowsL l) from rfl)
  have HDI := Hid.mk (show intC ((rowsL l).map fun r => dif r (bestL l)) = intC (difsL l) from rfl)
  rw [hN] at ho
  rw [hO] at ho
  have h0' : ((n : Int) == 0) = false := by rw [beq_eq_false_iff_ne]; omega
  have h6' : (n : Int) ≤ 6 := by omega
  generalize idxG (difsL l) (-1) = ci at *
  have HE := Hid.mk ha
  have HC := Hid.mk hc
  have HO := Hid.mk ho
  clear ha hc ho hS hR hF hlen hrow hA hL hrl hdl hN hO hz
  generalize ByteArray.mk (bestL l).toArray = BT at *
  go_enter Tryd.func12, Tryd.ntmps12
  go_wp2_with fail
  refine HE.out.mono ?_
  rintro e w1 ⟨⟨rv, rfl, hown⟩, hb1⟩
  rw [HRO.out] at hown
  obtain ⟨gr, cr, rfl, -, -⟩ := owns_some hown h0
  have HX := Hid.mk (strs_of hown)
  have HB1 := Hid.mk hb1
  clear hown hb1
  go_wp2_with fail
  refine (HC.out _ _ _ HX.out).mono ?_
  rintro e w2 ⟨rfl, hown2, hb2⟩
  rw [HDI.out] at hown2
  have HY := Hid.mk (nums_of hown2)
  have HW2 := Hid.mk hown2
  have HB2 := Hid.mk (bl2 HB1.out hb2)
  have HSZ := Hid.mk HB1.out.size
  clear hown2 hb2
  go_wp2_with fail
  refine (HO.out _ _ HY.out).mono ?_
  rintro e w3 ⟨rfl, hw3⟩
  subst hw3
  go_wp2_with fail
  refine bodyPost_ret (results_four _ _ _ _ 2 3 4 5 rfl) rfl ?_
  exact ⟨_, rfl, owns_lower HW2.out HSZ.out, HB2.out⟩
/-- Send of any frames -/
theorem send_any (a : Option Addr) (n cap : Nat) (l : List FrV) (w : World) (hS : SizesAt w) (hR : RulesAt w) (hF : IsFrames w a n cap l) :
    Calls Tryd.prog 12 #[.slice a n cap] w fun e w' => (sendE l ≠ 0 → e = .returned (.tuple #[.string ⟨#[]⟩, .int .i64 0, .slice none 0 0, .int .i64 (sendE l)])) ∧
      (sendE l = 0 → ∃ g, e = .returned (.tuple #[.string ⟨(bestL l).toArray⟩, .int .i64 (idxG (difsL l) (-1)), .slice (some ⟨g, 0, none⟩) n n, .int .i64 0]) ∧ w'.ownsRow w.heap.size 3 1 (.slice (some ⟨g, 0, none⟩) n n) n (intC (difsL l))) ∧ Below w.heap.size w w' := by
  have hl := hF.len
  by_cases h6 : 6 < n
  · have e1 : sendE l = 2 := by unfold sendE; rw [if_pos (by omega)]
    rw [e1]
    refine (send_many a n cap w h6).mono ?_
    rintro e w1 ⟨rfl, rfl⟩
    exact ⟨fun _ => rfl, fun h => absurd h (by decide), Below.refl _ _⟩
  · by_cases h0 : n = 0
    · have e1 : sendE l = 8 := by unfold sendE; rw [if_neg (by omega), if_pos (by omega)]
      rw [e1]
      refine (send_none a n cap w h0).mono ?_
      rintro e w1 ⟨rfl, rfl⟩
      exact ⟨fun _ => rfl, fun h => absurd h (by decide), Below.refl _ _⟩
    · by_cases hz : firE (l.map (·.f)) = 0
      · have e1 : sendE l = onlyE (difsL l) (-1) := by unfold sendE; rw [if_neg (by omega), if_neg (by omega), if_neg (fun h => h hz)]
        rw [e1]
        by_cases hO : onlyE (difsL l) (-1) = 0
        · refine (send_ok a n cap l w hS hR hF (by omega) (by omega) hz hO).mono ?_
          rintro e w1 ⟨g, h1, h2, h3⟩
          exact ⟨fun h => absurd hO h, fun _ => ⟨g, h1, h2⟩, h3⟩
        · refine (send_twice a n cap l w hS hR hF (by omega) (by omega) hz hO).mono ?_
          rintro e w1 ⟨h1, h3⟩
          exact ⟨fun _ => h1, fun h => absurd h hO, h3⟩
      · have e1 : sendE l = firE (l.map (·.f)) := by unfold sendE; rw [if_neg (by omega), if_neg (by omega), if_pos hz]
        rw [e1]
        refine (send_bad a n cap l w hS hR hF (by omega) (by omega) hz).mono ?_
        rintro e w1 ⟨h1, h3⟩
        exact ⟨fun _ => h1, fun h => absurd h hz, h3⟩
end Bw
end Go.Proofs.YthdhhmflfdbkhaaDoor

/- What slices.Equal answers of two slices that hold the same numbers: true. -/
namespace Go.Proofs.YthdhhmflfdbkhaaDoor
open Go.ChangeShapes Go.WideShapes Go.ChangeAt Go.RowKit
namespace Bw
open Bm
set_option maxHeartbeats 1000000 in
theorem equalN_true (w : World) (g h n c d : Nat) (xs : List Int) (hx : xs.length = n) (hn : n ≤ 1000) (ha : NumsAt w g 0 xs) (hb : NumsAt w h 0 xs) :
    Calls Tryd.prog 19 #[.slice (some ⟨g, 0, none⟩) n c, .slice (some ⟨h, 0, none⟩) n d] w fun e w' => e = .returned (.bool true) ∧ Below w.heap.size w w' := by
  have HA := Hid.mk ha
  have HB := Hid.mk hb
  have HX := Hid.mk hx
  clear ha hb hx
  go_enter Tryd.func19, Tryd.ntmps19
  go_wp2
  go_loopw [13] (fun i w' => ∃ k : Nat, k ≤ n ∧ i = .int .i64 k ∧ ∃ m, w' = w.drewN m) (fun i _ => n - (intOf i).toNat)
  case atStart => exact ⟨0, Nat.zero_le _, rfl, 0, rfl⟩
  case round =>
    obtain ⟨k, hk, rfl, m, rfl⟩ := hrel
    by_cases hlt : k < n
    · have g1 := HA.out k (by rw [HX.out]; exact hlt)
      have g2 := HB.out k (by rw [HX.out]; exact hlt)
      simp only [Nat.zero_add] at g1 g2
      generalize xs.getD k 0 = y at *
      have hlt' : (k : Int) < (n : Int) := by omega
      go_wp2
      go_quiet (fail)
      go_wp2
      go_roundw
      case rel => exact ⟨k + 1, by omega, by go_num, _, rfl⟩
      case measure => simp [intOf]; omega
    · go_wp2
      go_ret
      exact ⟨rfl, ⟨rfl, rfl, rfl, Nat.le_refl _, fun _ _ => rfl⟩⟩
end Bw
end Go.Proofs.YthdhhmflfdbkhaaDoor

/- The closed fact that each law of the wire asks for: two frames at a time. -/
namespace Go.Proofs.YthdhhmflfdbkhaaDoor
open Go.ChangeShapes Go.WideShapes Go.ChangeAt Go.RowKit
namespace Bw
open Bm Cm
def w6 : FrV := ⟨⟨6, false, false, false, 0, []⟩, none, 0, 0⟩
def w5 : FrV := ⟨⟨5, false, false, false, 0, []⟩, none, 0, 0⟩
theorem w65_send : sendE [w6, w5] = 0 := by decide +kernel
theorem w65_best : bestL [w6, w5] = bitsL w5.f := by decide +kernel
theorem w65_difs : difsL [w6, w5] = [11, -1] := by decide +kernel
theorem w5_ok : frE w5.f = 0 := by decide +kernel
def w65C : Obj := .cells #[.int .i64 6, .bool false, .bool false, .bool false, .int .i64 0, .slice none 0 0, .int .i64 5, .bool false, .bool false, .bool false, .int .i64 0, .slice none 0 0] 30
theorem w65_frames (w : World) : IsFrames (w.alloc w65C) (some ⟨w.heap.size, 0, none⟩) 2 2 [w6, w5] := by
  refine ⟨rfl, Nat.le_refl _, by unfold maxLen; decide, (fun h => by cases h), ?_, ?_⟩
  · intro x hx i hi k hk
    cases hx
    have e : ∀ j, (Addr.add ⟨w.heap.size, 0, none⟩ j) = ⟨w.heap.size, j, none⟩ := by intro j; simp [Addr.add]; exact fun h => h.symm
    rw [e, cell_of_row _ _ _ _ _ _ (heap_alloc_new w w65C)]
    have hi2 : i < 2 := hi
    match i, hi2, k, hk with
    | 0, _, 0, _ => rfl
    | 0, _, 1, _ => rfl
    | 0, _, 2, _ => rfl
    | 0, _, 3, _ => rfl
    | 0, _, 4, _ => rfl
    | 0, _, 5, _ => rfl
    | 1, _, 0, _ => rfl
    | 1, _, 1, _ => rfl
    | 1, _, 2, _ => rfl
    | 1, _, 3, _ => rfl
    | 1, _, 4, _ => rfl
    | 1, _, 5, _ => rfl
  · intro i hi
    have hi2 : i < 2 := hi
    match i, hi2 with
    | 0, _ => exact ⟨rfl, Nat.le_refl _, Nat.zero_le _, fun _ => rfl, fun x hx => by cases hx⟩
    | 1, _ => exact ⟨rfl, Nat.le_refl _, Nat.zero_le _, fun _ => rfl, fun x hx => by cases hx⟩
def n11C : Obj := .cells #[.int .i64 11, .int .i64 (-1)] 3
theorem n11_nums (w : World) : NumsAt (w.alloc n11C) w.heap.size 0 [11, -1] := by
  intro i hi
  rw [Nat.zero_add, cell_of_row _ _ _ _ _ _ (heap_alloc_new w n11C)]
  have hi2 : i < 2 := hi
  match i, hi2 with
  | 0, _ => rfl
  | 1, _ => rfl
set_option maxHeartbeats 8000000 in
theorem wired_any (w : World) (hS : SizesAt w) (hR : RulesAt w) :
    Calls Tryd.prog 7 #[] w fun e w' => e = .returned (.bool true) ∧ Below w.heap.size w w' := by
  have hB0 : Below w.heap.size w (w.alloc w65C) := (Below.refl _ _).alloc (Nat.le_refl _) _
  have a1 := (send_any (some ⟨w.heap.size, 0, none⟩) 2 2 [w6, w5] _ (hS.kept hB0) (hR.kept hB0) (w65_frames w)).mono (fun _ _ h => And.intro (h.2.1 w65_send) h.2.2)
  rw [w65_best, w65_difs] at a1
  have e1 : idxG ([11, -1] : List Int) (-1) = 1 := by decide
  rw [e1] at a1
  have a2 := fun W h1 h2 => frBits_ok w5.f none 0 0 W h1 h2 ⟨rfl, Nat.le_refl _, Nat.zero_le _, fun _ => rfl, fun x hx => by cases hx⟩ w5_ok
  have a3 := fun W g h h1 h2 => equalN_true W g h 2 2 2 [11, -1] rfl (by decide) h1 h2
  have h11 := fun W => n11_nums W
  have b11 : ∀ W : World, Below W.heap.size W (W.alloc n11C) := fun W => (Below.refl _ _).alloc (Nat.le_refl _) _
  generalize ByteArray.mk (bitsL w5.f).toArray = X at *
  unfold w65C at a1 hB0
  unfold frameV w5 at a2
  unfold n11C at h11 b11
  simp only at a2
  have HA1 := Hid.mk a1
  have HA2 := Hid.mk a2
  have HA3 := Hid.mk a3
  have H11 := Hid.mk h11
  have B11 := Hid.mk b11
  have HB := Hid.mk hB0
  have HS := Hid.mk hS
  have HR := Hid.mk hR
  clear a1 a2 a3 h11 b11 hB0 hS hR e1
  go_enter Tryd.func7, Tryd.ntmps7
  go_wp2_with fail
  refine HA1.out.mono ?_
  rintro e w1 ⟨⟨g, rfl, hown⟩, hb1⟩
  have HB1 := Hid.mk (bl2 HB.out hb1)
  have HO := Hid.mk hown
  clear hown hb1
  go_wp2_with fail
  refine (HA2.out _ (HS.out.kept HB1.out) (HR.out.kept HB1.out)).mono ?_
  rintro e w2 ⟨rfl, hb2⟩
  have HB2 := Hid.mk (bl2 HB1.out hb2)
  have HO2 := Hid.mk (ownsRow_below HO.out hb2)
  clear hb2
  go_wp2_with fail
  refine (HA3.out _ _ _ (nums_of (HO2.out.alloc _)) (H11.out _)).mono ?_
  rintro e w3 ⟨rfl, hb3⟩
  have HB3 := Hid.mk (bl2 (bl2 HB2.out (B11.out _)) hb3)
  clear hb3
  go_wp2_with fail
  go_ret
  exact ⟨rfl, HB3.out⟩
end Bw
end Go.Proofs.YthdhhmflfdbkhaaDoor
