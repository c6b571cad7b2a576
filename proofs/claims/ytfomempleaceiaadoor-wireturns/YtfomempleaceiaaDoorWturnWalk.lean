/- The law WireTurns: in whatever order they are told, the same frame goes through, and the same bits are on the bus. -/
import Derived.Test.YtfomempleaceiaaDoorT3
import Derived.Test.YtfomempleaceiaaDoorFrRev
import Derived.Test.YtfomempleaceiaaDoorWired
import Derived.Test.YtfomempleaceiaaDoorC22
namespace Go.Proofs.YtfomempleaceiaaDoor
open Go.ChangeShapes Go.WideShapes Go.ChangeAt Go.RowKit
namespace Bw
open Bm Cm
theorem frames_rev {w1 w2 w3 : World} {a : Option Addr} {n cap g c : Nat} {l : List FrV} (hF : IsFrames w1 a n cap l) (ho : w2.ownsRow w1.heap.size 30 6 (.slice (some ⟨g, 0, none⟩) n c) n (frC l))
    (hc : ∀ i (hi : i < l.reverse.length) k (hk : k < 6), w3.cell? ⟨g, i * 6 + k, none⟩ = some ((l.reverse[i].cells)[k]'hk)) (hb : Below w1.heap.size w1 w3) : IsFrames w3 (some ⟨g, 0, none⟩) n c l.reverse := by
  have hnc : n ≤ c ∧ c ≤ maxLen := by
    rcases ho.2 with ⟨h, _⟩ | ⟨g', c', cur, h, _, _, h1, h2, _⟩
    · cases h
    · cases h; exact ⟨h1, h2⟩
  refine ⟨by rw [List.length_reverse]; exact hF.len, hnc.1, hnc.2, (fun h => by cases h), ?_, ?_⟩
  · intro x hx i hi k hk
    cases hx
    have e : (Addr.add ⟨g, 0, none⟩ (i * 6 + k)) = ⟨g, i * 6 + k, none⟩ := by simp [Addr.add]; intros; omega
    rw [e]
    exact hc i hi k hk
  · intro i hi
    rw [List.getElem_reverse]
    exact isBytes_below (hF.bytes _ _) hb
set_option maxHeartbeats 8000000 in
theorem wturn_nil (cap : Nat) (w : World) (hS : SizesAt w) (hR : RulesAt w) :
    Calls Tryd.prog 5 #[.slice none 0 cap] w fun e w' => e = .returned (.bool true) ∧ Below w.heap.size w w' := by
  have HA1 := Hid.mk (fun W c => send_none none 0 c W rfl)
  have HA2 := Hid.mk (clone_nil w cap)
  have HA3 := Hid.mk (fun W => AnyQ.slices_Reverse_empty Tryd.lays35r none 0 W)
  have HA5 := Hid.mk (fun W h1 h2 => wired_any W h1 h2)
  have HS := Hid.mk hS
  have HR := Hid.mk hR
  have HB4 := Hid.mk (Below.refl w.heap.size w)
  clear hS hR
  go_enter Tryd.func5, Tryd.ntmps5
  go_wp2_with fail
  refine (HA1.out _ _).mono ?_
  rintro e w1 ⟨rfl, hw1⟩
  subst hw1
  go_wp2_with fail
  refine HA2.out.mono ?_
  rintro e w2 ⟨rfl, hw2⟩
  subst hw2
  go_wp2_with fail
  refine (HA3.out _).mono ?_
  rintro e w3 ⟨rfl, hw3⟩
  subst hw3
  go_wp2_with fail
  refine (HA1.out _ _).mono ?_
  rintro e w4 ⟨rfl, hw4⟩
  subst hw4
  go_wp2_with fail
  refine (HA5.out _ (HS.out.kept HB4.out) (HR.out.kept HB4.out)).mono ?_
  rintro e w5 ⟨rfl, hb5⟩
  have HB5 := Hid.mk (bl2 HB4.out hb5)
  clear hb5
  go_wp2_with fail
  refine (HA5.out _ (HS.out.kept HB5.out) (HR.out.kept HB5.out)).mono ?_
  rintro e w6 ⟨rfl, hb6⟩
  have HB6 := Hid.mk (bl2 HB5.out hb6)
  clear hb6
  go_wp2_with fail
  go_ret
  exact ⟨rfl, HB6.out⟩
set_option maxHeartbeats 8000000 in
theorem wturn_bad (x : Addr) (n cap : Nat) (l : List FrV) (w : World) (hS : SizesAt w) (hR : RulesAt w) (hF : IsFrames w (some x) n cap l) (hn : n * 48 ≤ 140737488351232) (hE : sendE l ≠ 0) :
    Calls Tryd.prog 5 #[.slice (some x) n cap] w fun e w' => e = .returned (.bool true) ∧ Below w.heap.size w w' := by
  have hE2 : sendE l.reverse ≠ 0 := fun h => hE ((sendE_rev l).1 h)
  have HA1 := Hid.mk ((send_any (some x) n cap l w hS hR hF).mono (fun _ _ h => And.intro (h.1 hE) h.2.2))
  have HA4 := Hid.mk (fun g c W h1 h2 (hW : IsFrames W (some ⟨g, 0, none⟩) n c l.reverse) => (send_any (some ⟨g, 0, none⟩) n c l.reverse W h1 h2 hW).mono (fun _ _ h => And.intro (h.1 hE2) h.2.2))
  have hmx : n ≤ maxLen := Nat.le_trans hF.le hF.max
  have HA2 := Hid.mk (fun W hW => clone_some x n cap l W hW hn)
  have HA3 := Hid.mk (fun base g c W ho => revF_any base g n c l W hF.len hmx ho)
  have HA5 := Hid.mk (fun W h1 h2 => wired_any W h1 h2)
  have HF := Hid.mk hF
  have HS := Hid.mk hS
  have HR := Hid.mk hR
  have q1 : (sendE l != 0) = true := by simpa using hE
  have q2 : (sendE l.reverse != 0) = true := by simpa using hE2
  have q3 : (sendE l == 0) = false := by simpa using hE
  have q4 : (sendE l.reverse == 0) = false := by simpa using hE2
  generalize sendE l = se at *
  generalize sendE l.reverse = sr at *
  clear hS hR hF hE hE2 hmx
  go_enter Tryd.func5, Tryd.ntmps5
  go_wp2_with fail
  refine HA1.out.mono ?_
  rintro e w1 ⟨rfl, hb1⟩
  have HF1 := Hid.mk (HF.out.kept hb1)
  have HB1 := Hid.mk hb1
  clear hb1 HA1 HF
  go_wp2_with fail
  refine (HA2.out _ HF1.out).mono ?_
  rintro e w2 ⟨gm, cm, rfl, hown2, hb2⟩
  have HO2 := Hid.mk hown2
  have HB2 := Hid.mk hb2
  clear hown2 hb2 HA2
  go_wp2_with fail
  refine (HA3.out _ _ _ _ HO2.out).mono ?_
  rintro e w3 ⟨rfl, hcells, ht3⟩
  have hb13 : Below w1.heap.size w1 w3 := Tch.below HB2.out ht3 (by
    intro g hg
    have e : g = gm := by simpa using hg
    rw [e]
    exact (HO2.out.lt gm rfl).1) (Nat.le_refl _)
  have HF3 := Hid.mk (frames_rev HF1.out HO2.out hcells hb13)
  have HB13 := Hid.mk hb13
  have HB3 := Hid.mk (bl2 HB1.out hb13)
  have HB13s := Hid.mk hb13.size
  clear hcells ht3 hb13 HO2 HB2 HA3
  go_wp2_with fail
  refine (HA4.out _ _ _ (HS.out.kept HB3.out) (HR.out.kept HB3.out) HF3.out).mono ?_
  rintro e w4 ⟨rfl, hb4⟩
  have HB4 := Hid.mk (bl2 HB3.out hb4)
  clear hb4
  go_wp2_with fail
  refine (HA5.out _ (HS.out.kept HB4.out) (HR.out.kept HB4.out)).mono ?_
  rintro e w5 ⟨rfl, hb5⟩
  have HB5 := Hid.mk (bl2 HB4.out hb5)
  clear hb5
  go_wp2_with fail
  refine (HA5.out _ (HS.out.kept HB5.out) (HR.out.kept HB5.out)).mono ?_
  rintro e w6 ⟨rfl, hb6⟩
  have HB6 := Hid.mk (bl2 HB5.out hb6)
  clear hb6
  go_wp2_with fail
  go_ret
  exact ⟨rfl, HB6.out⟩
set_option maxHeartbeats 16000000 in
theorem wturn_ok (x : Addr) (n cap : Nat) (l : List FrV) (w : World) (hS : SizesAt w) (hR : RulesAt w) (hF : IsFrames w (some x) n cap l) (hn : n * 48 ≤ 140737488351232) (hE : sendE l = 0) :
    Calls Tryd.prog 5 #[.slice (some x) n cap] w fun e w' => e = .returned (.bool true) ∧ Below w.heap.size w w' := by
  have hE2 : sendE l.reverse = 0 := (sendE_rev l).2 hE
  obtain ⟨h6, h0, _, ho⟩ := send_parts hE
  have hl := hF.len
  have hdl : (difsL l).length = n := by unfold difsL rowsL; simp [hl]
  have hix := idx_rev (difs_mem l h0) ho
  obtain ⟨i, hi, hidx, -, -⟩ := send_who hE2
  have hi2 : i < n := by rw [List.length_reverse] at hi; omega
  have a1 := (send_any (some x) n cap l w hS hR hF).mono (fun _ _ h => And.intro (h.2.1 hE) h.2.2)
  have a4 := fun g c W h1 h2 (hW : IsFrames W (some ⟨g, 0, none⟩) n c l.reverse) => (send_any (some ⟨g, 0, none⟩) n c l.reverse W h1 h2 hW).mono (fun _ _ h => And.intro (h.2.1 hE2) h.2.2)
  rw [bestL_rev l h0, hidx] at a4
  rw [difsL_rev l h0] at a4 hidx
  rw [hidx, hdl] at hix
  rw [hix] at a1
  have a6 := fun base g W ho => revN_any base g n (difsL l).reverse W (by rw [List.length_reverse]; exact hdl) (by omega) ho
  rw [List.reverse_reverse] at a6
  have HA1 := Hid.mk a1
  have HA4 := Hid.mk a4
  have HA6 := Hid.mk a6
  have HA7 := Hid.mk (fun W g h h1 h2 => equalN_true W g h n n n (difsL l) hdl (by omega) h1 h2)
  have hmx : n ≤ maxLen := Nat.le_trans hF.le hF.max
  have HA2 := Hid.mk (fun W hW => clone_some x n cap l W hW hn)
  have HA3 := Hid.mk (fun base g c W ho => revF_any base g n c l W hF.len hmx ho)
  have HA5 := Hid.mk (fun W h1 h2 => wired_any W h1 h2)
  have HF := Hid.mk hF
  have HS := Hid.mk hS
  have HR := Hid.mk hR
  generalize ByteArray.mk (bestL l).toArray = BT at *
  have e1 : (BT.toList == BT.toList) = true := by simp
  have hn6 : n ≤ 6 := by omega
  have hi2' : (i : Int) < (n : Int) := by omega
  clear hS hR hF hE hE2 hmx a1 a4 a6 hix hidx hi ho h6 h0 hl hdl
  go_enter Tryd.func5, Tryd.ntmps5
  go_wp2_with fail
  refine HA1.out.mono ?_
  rintro e w1 ⟨⟨gl, rfl, hownL⟩, hb1⟩
  have HNL := Hid.mk (nums_of hownL)
  clear hownL
  have HF1 := Hid.mk (HF.out.kept hb1)
  have HB1 := Hid.mk hb1
  clear hb1 HA1 HF
  go_wp2_with fail
  refine (HA2.out _ HF1.out).mono ?_
  rintro e w2 ⟨gm, cm, rfl, hown2, hb2⟩
  have HO2 := Hid.mk hown2
  have HB2 := Hid.mk hb2
  clear hown2 hb2 HA2
  go_wp2_with fail
  refine (HA3.out _ _ _ _ HO2.out).mono ?_
  rintro e w3 ⟨rfl, hcells, ht3⟩
  have hb13 : Below w1.heap.size w1 w3 := Tch.below HB2.out ht3 (by
    intro g hg
    have e : g = gm := by simpa using hg
    rw [e]
    exact (HO2.out.lt gm rfl).1) (Nat.le_refl _)
  have HF3 := Hid.mk (frames_rev HF1.out HO2.out hcells hb13)
  have HB13 := Hid.mk hb13
  have HB3 := Hid.mk (bl2 HB1.out hb13)
  have HB13s := Hid.mk hb13.size
  clear hcells ht3 hb13 HO2 HB2 HA3
  go_wp2_with fail
  refine (HA4.out _ _ _ (HS.out.kept HB3.out) (HR.out.kept HB3.out) HF3.out).mono ?_
  rintro e w4 ⟨⟨gg, rfl, hownG⟩, hb4⟩
  have HOG := Hid.mk hownG
  have HB4 := Hid.mk (bl2 HB3.out hb4)
  have HB14 := Hid.mk (bl2 HB13.out hb4)
  clear hownG hb4 HB13
  go_wp2_with fail
  refine (HA5.out _ (HS.out.kept HB4.out) (HR.out.kept HB4.out)).mono ?_
  rintro e w5 ⟨rfl, hb5⟩
  have HB5 := Hid.mk (bl2 HB4.out hb5)
  have HB15 := Hid.mk (bl2 HB14.out hb5)
  have HOG5 := Hid.mk (ownsRow_below HOG.out hb5)
  have HGG := Hid.mk (show w1.heap.size ≤ gg from Nat.le_trans HB13s.out (HOG.out.lt gg rfl).1)
  clear hb5 HOG HB4 HB14
  go_wp2_with fail
  refine (HA6.out _ _ _ HOG5.out).mono ?_
  rintro e w6 ⟨rfl, hnum6, ht6⟩
  have HB16 := Hid.mk (Tch.below HB15.out ht6 (by
    intro g hg
    have e : g = gg := by simpa using hg
    rw [e]; exact HGG.out) (Nat.le_refl _))
  have HB6 := Hid.mk (bl2 HB1.out HB16.out)
  have HN6 := Hid.mk hnum6
  clear hnum6 ht6 HOG5
  go_wp2_with fail
  refine (HA7.out _ _ _ (fun i hi => cell_kept HB16.out (HNL.out i hi)) HN6.out).mono ?_
  rintro e w7 ⟨rfl, hb7⟩
  have HB7 := Hid.mk (bl2 HB6.out hb7)
  clear hb7
  go_wp2_with fail
  go_ret
  exact ⟨rfl, HB7.out⟩
end Bw
namespace wireTurns
open Bw Bm
theorem walk (a : Option Addr) (n cap : Nat) (l : List FrV) (w : World) (hF : IsFrames w a n cap l) (hn : n * 48 ≤ 140737488351232) (hL : laidMet Tryd.prog Rows.wireTurnsRow.laid w) :
    Calls Tryd.prog 5 #[.slice a n cap] w fun e w' => e = .returned (.bool true) ∧ Below w.heap.size w w' := by
  have hS := sizes_of hL (by simp [Rows.wireTurnsRow])
  have hR := rules_of hL (by simp [Rows.wireTurnsRow])
  cases a with
  | none =>
    have h0 := hF.none rfl
    subst h0
    exact wturn_nil cap w hS hR
  | some x =>
    by_cases hE : sendE l = 0
    · exact wturn_ok x n cap l w hS hR hF hn hE
    · exact wturn_bad x n cap l w hS hR hF hn hE
end wireTurns
end Go.Proofs.YtfomempleaceiaaDoor
