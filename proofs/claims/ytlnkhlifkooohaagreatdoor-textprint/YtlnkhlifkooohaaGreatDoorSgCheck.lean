/- What package signal's hasWrongNumber, firstSent, place, Check and span answer. -/
import Derived.Test.YtlnkhlifkooohaaGreatDoorSgSmall
import Derived.Lib.QuietBelow
namespace Go.Proofs.YtlnkhlifkooohaaGreatDoor
open Go.ChangeShapes Go.WideShapes Go.ChangeAt Go.RowKit Go.Sort
namespace Bw
open Sm
theorem SgAt.regrown {w : World} {g : Nat} {s : Sig} (h : SgAt w g s) (d : Nat) (os) : SgAt (grow (redrawn w d) os) g s := h.kept (below_regrown w d os)
def numB (s : Sig) : Bool := inB s.sz 1 40 && (!(s.mu == 0) && (inB s.mu (-1000000) 1000000 && (inB s.di 1 1000000 && (inB s.ad (-1000000) 1000000 && inB s.ky (-1) 255))))
theorem swithin_b (n lo hi : Int) (w : World) :
    Calls Tryz.prog 126 #[.int .i64 n, .int .i64 lo, .int .i64 hi] w fun e w' => e = .returned (.bool (inB n lo hi)) ∧ Below w.heap.size w w' :=
  (swithin_any n lo hi w).mono (fun e w' h => ⟨h.1, by rw [h.2]; exact Below.refl _ _⟩)
theorem turned_b (x : Int) (w : World) (h1 : -9223372036854775808 ≤ x) (h2 : x ≤ 9223372036854775807) :
    Calls Tryz.prog 130 #[.int .i64 x] w fun e w' => e = .returned (.int .i64 (flipI x)) ∧ Below w.heap.size w w' :=
  (turned_any x w h1 h2).mono (fun e w' h => ⟨h.1, by rw [h.2]; exact Below.refl _ _⟩)
set_option maxHeartbeats 4000000 in
theorem wrong_any (s : Sig) (w : World) :
    Calls Tryz.prog 127 #[sgV s] w fun e w' => e = .returned (.bool (!numB s)) ∧ Below w.heap.size w w' := by
  have HB := Hid.mk (sg_box w s)
  obtain ⟨nm, st, sz, bk, sg, mu, di, ad, ky⟩ := s
  unfold sgC at HB
  unfold sgV numB
  simp only at HB ⊢
  have hI0 := fun W => swithin_any sz 1 40 W
  have hI2 := fun W => swithin_any mu (-1000000) 1000000 W
  have hI3 := fun W => swithin_any di 1 1000000 W
  have hI4 := fun W => swithin_any ad (-1000000) 1000000 W
  have hI5 := fun W => swithin_any ky (-1) 255 W
  generalize hE0 : inB sz 1 40 = e0 at *
  cases e0 with
  | false =>
    simp only [Bool.false_and, Bool.not_false]
    go_enter Tryz.func127, Tryz.ntmps127
    go_wp2_with fail
    refine (hI0 _).mono ?_
    rintro e w0 ⟨rfl, hw0⟩
    obtain rfl := hw0.symm
    go_wp2_with fail
    go_ret
    exact ⟨rfl, HB.out⟩
  | true =>
    generalize hE1 : (mu == 0) = e1
    cases e1 with
    | true =>
      rw [show (true && (!true && (inB mu (-1000000) 1000000 && (inB di 1 1000000 && (inB ad (-1000000) 1000000 && inB ky (-1) 255))))) = false by simp]
      go_enter Tryz.func127, Tryz.ntmps127
      go_wp2_with fail
      refine (hI0 _).mono ?_
      rintro e w0 ⟨rfl, hw0⟩
      obtain rfl := hw0.symm
      go_wp2_with fail
      go_ret
      exact ⟨rfl, HB.out⟩
    | false =>
      generalize hE2 : inB mu (-1000000) 1000000 = e2 at *
      cases e2 with
      | false =>
        simp only [Bool.false_and, Bool.true_and, Bool.not_false]
        go_enter Tryz.func127, Tryz.ntmps127
        go_wp2_with fail
        refine (hI0 _).mono ?_
        rintro e w0 ⟨rfl, hw0⟩
        obtain rfl := hw0.symm
        go_wp2_with fail
        refine (hI2 _).mono ?_
        rintro e w2 ⟨rfl, hw2⟩
        obtain rfl := hw2.symm
        go_wp2_with fail
        go_ret
        exact ⟨rfl, HB.out⟩
      | true =>
        generalize hE3 : inB di 1 1000000 = e3 at *
        cases e3 with
        | false =>
          simp only [Bool.false_and, Bool.true_and, Bool.not_false]
          go_enter Tryz.func127, Tryz.ntmps127
          go_wp2_with fail
          refine (hI0 _).mono ?_
          rintro e w0 ⟨rfl, hw0⟩
          obtain rfl := hw0.symm
          go_wp2_with fail
          refine (hI2 _).mono ?_
          rintro e w2 ⟨rfl, hw2⟩
          obtain rfl := hw2.symm
          go_wp2_with fail
          refine (hI3 _).mono ?_
          rintro e w3 ⟨rfl, hw3⟩
          obtain rfl := hw3.symm
          go_wp2_with fail
          go_ret
          exact ⟨rfl, HB.out⟩
        | true =>
          generalize hE4 : inB ad (-1000000) 1000000 = e4 at *
          cases e4 with
          | false =>
            simp only [Bool.false_and, Bool.true_and, Bool.not_false]
            go_enter Tryz.func127, Tryz.ntmps127
            go_wp2_with fail
            refine (hI0 _).mono ?_
            rintro e w0 ⟨rfl, hw0⟩
            obtain rfl := hw0.symm
            go_wp2_with fail
            refine (hI2 _).mono ?_
            rintro e w2 ⟨rfl, hw2⟩
            obtain rfl := hw2.symm
            go_wp2_with fail
            refine (hI3 _).mono ?_
            rintro e w3 ⟨rfl, hw3⟩
            obtain rfl := hw3.symm
            go_wp2_with fail
            refine (hI4 _).mono ?_
            rintro e w4 ⟨rfl, hw4⟩
            obtain rfl := hw4.symm
            go_wp2_with fail
            go_ret
            exact ⟨rfl, HB.out⟩
          | true =>
            generalize hE5 : inB ky (-1) 255 = e5 at *
            cases e5 with
            | false =>
              simp only [Bool.true_and, Bool.not_false]
              go_enter Tryz.func127, Tryz.ntmps127
              go_wp2_with fail
              refine (hI0 _).mono ?_
              rintro e w0 ⟨rfl, hw0⟩
              obtain rfl := hw0.symm
              go_wp2_with fail
              refine (hI2 _).mono ?_
              rintro e w2 ⟨rfl, hw2⟩
              obtain rfl := hw2.symm
              go_wp2_with fail
              refine (hI3 _).mono ?_
              rintro e w3 ⟨rfl, hw3⟩
              obtain rfl := hw3.symm
              go_wp2_with fail
              refine (hI4 _).mono ?_
              rintro e w4 ⟨rfl, hw4⟩
              obtain rfl := hw4.symm
              go_wp2_with fail
              refine (hI5 _).mono ?_
              rintro e w5 ⟨rfl, hw5⟩
              obtain rfl := hw5.symm
              go_wp2_with fail
              go_ret
              exact ⟨rfl, HB.out⟩
            | true =>
              simp only [Bool.true_and, Bool.not_false, Bool.not_true]
              go_enter Tryz.func127, Tryz.ntmps127
              go_wp2_with fail
              refine (hI0 _).mono ?_
              rintro e w0 ⟨rfl, hw0⟩
              obtain rfl := hw0.symm
              go_wp2_with fail
              refine (hI2 _).mono ?_
              rintro e w2 ⟨rfl, hw2⟩
              obtain rfl := hw2.symm
              go_wp2_with fail
              refine (hI3 _).mono ?_
              rintro e w3 ⟨rfl, hw3⟩
              obtain rfl := hw3.symm
              go_wp2_with fail
              refine (hI4 _).mono ?_
              rintro e w4 ⟨rfl, hw4⟩
              obtain rfl := hw4.symm
              go_wp2_with fail
              refine (hI5 _).mono ?_
              rintro e w5 ⟨rfl, hw5⟩
              obtain rfl := hw5.symm
              go_wp2_with fail
              go_ret
              exact ⟨rfl, HB.out⟩
def fsI (s : Sig) : Int := if s.bk = true then flipI s.st else s.st
def wfS (s : Sig) : Prop := (-9223372036854775808 ≤ s.st ∧ s.st ≤ 9223372036854775807) ∧ s.nm.size ≤ 9223372036854775807
set_option maxHeartbeats 4000000 in
theorem firstSent_any (s : Sig) (w : World) (h : wfS s) :
    Calls Tryz.prog 128 #[sgV s] w fun e w' => e = .returned (.int .i64 (fsI s)) ∧ Below w.heap.size w w' := by
  have HB := Hid.mk (sg_box w s)
  obtain ⟨⟨h1, h2⟩, _⟩ := h
  obtain ⟨nm, st, sz, bk, sg, mu, di, ad, ky⟩ := s
  unfold sgC at HB
  unfold sgV fsI
  simp only at HB h1 h2 ⊢
  have HT := Hid.mk (fun W => turned_any st W h1 h2)
  clear h1 h2
  cases bk with
  | true =>
    simp only [if_true]
    go_enter Tryz.func128, Tryz.ntmps128
    go_wp2_with fail
    refine (HT.out _).mono ?_
    rintro e w1 ⟨rfl, hw1⟩
    obtain rfl := hw1.symm
    go_wp2_with fail
    go_ret
    exact ⟨rfl, HB.out⟩
  | false =>
    simp only [Bool.false_eq_true, if_false]
    go_enter Tryz.func128, Tryz.ntmps128
    go_wp2_with fail
    go_ret
    exact ⟨rfl, HB.out⟩
/-- the place of a bit, of a signal as it came in -/
def plI (s : Sig) (i : Int) : Int := if s.bk = true then flipI (flipI s.st + s.sz - 1 - i) else s.st + i
set_option maxHeartbeats 4000000 in
set_option maxRecDepth 100000 in
theorem place_any (s : Sig) (i : Int) (w : World) (h1 : 0 ≤ s.st ∧ s.st ≤ 1000) (h2 : 1 ≤ s.sz ∧ s.sz ≤ 40) (h3 : 0 ≤ i ∧ i < s.sz) :
    Calls Tryz.prog 80 #[sgV s, .int .i64 i] w fun e w' => e = .returned (.int .i64 (plI s i)) ∧ Below w.heap.size w w' := by
  have hB := sg_box w s
  have hG := SgAt.box w s
  obtain ⟨nm, st, sz, bk, sg, mu, di, ad, ky⟩ := s
  unfold sgC at hB hG
  unfold sgV plI
  simp only at hB hG h1 h2 h3 ⊢
  obtain ⟨h1a, h1b⟩ := h1
  obtain ⟨h2a, h2b⟩ := h2
  obtain ⟨h3a, h3b⟩ := h3
  cases bk with
  | true =>
    simp only [if_true]
    have hf : 0 ≤ flipI st ∧ flipI st ≤ 1007 := by unfold flipI; omega
    obtain ⟨f, hf0⟩ : ∃ f, f = flipI st := ⟨_, rfl⟩
    rw [← hf0] at hf ⊢
    obtain ⟨hfa, hfb⟩ := hf
    have hT1 := fun W => turned_b st W (by omega) (by omega)
    rw [← hf0] at hT1
    have HT1 := Hid.mk hT1
    have HT2 := Hid.mk (fun W => turned_b (f + sz - 1 - i) W (by omega) (by omega))
    have HB := Hid.mk hB
    have HG := Hid.mk hG
    have rx1 := fun d os => (hG.regrown d os).c1
    have rx2 := fun d os => (hG.regrown d os).c2
    simp only at rx1 rx2
    clear hf0 hT1 hB hG
    go_enter Tryz.func80, Tryz.ntmps80
    go_wp2_with fail
    refine wp_region_quiet_below (by kernel_rfl) (by kernel_rfl) ?_
    repeat (go_big_quiet_step (first
      | (go_at_call 130; exact Calls.regrown_of (HT1.out _))
      | (go_at_call 130; exact Calls.regrown_of (HT2.out _))))
    refine wpQuiet_nil ?_
    intro _ hw'
    obtain ⟨⟨dq, osq⟩, hw''⟩ := hw'
    subst hw''
    have HB2 := Hid.mk (bl2 HB.out (below_regrown _ dq osq))
    clear rx1 rx2
    go_wp2_with fail
    go_ret
    exact ⟨rfl, HB2.out⟩
  | false =>
    simp only [Bool.false_eq_true, if_false]
    have HB := Hid.mk hB
    clear hB hG
    go_enter Tryz.func80, Tryz.ntmps80
    go_wp2_with fail
    go_ret
    exact ⟨rfl, HB.out⟩
/-- what Check answers -/
def chkS (s : Sig) (size : Int) : Int := if nameB s.nm.data.toList = false then 1 else if (inB size 0 64 && numB s) = false then 3 else if inB (fsI s) 0 (8 * size - s.sz) = false then 7 else 0
set_option maxHeartbeats 4000000 in
set_option maxRecDepth 100000 in
theorem scheck_any (s : Sig) (size : Int) (w : World) (h : wfS s) :
    Calls Tryz.prog 77 #[sgV s, .int .i64 size] w fun e w' => e = .returned (.int .i64 (chkS s size)) ∧ Below w.heap.size w w' := by
  have HB := Hid.mk (sg_box w s)
  have HG := Hid.mk (SgAt.box w s)
  have hN := fun W => sname_any s.nm W h.2
  have hI := fun W => swithin_any size 0 64 W
  have hW := fun W => wrong_any s W
  have hF := fun W => firstSent_any s W h
  have hZ : numB s = true → 1 ≤ s.sz ∧ s.sz ≤ 40 := fun hn => by
    unfold numB at hn
    rw [Bool.and_eq_true] at hn
    exact inB_iff.1 hn.1
  unfold chkS
  have hF2 := fun W => swithin_b (fsI s) 0 (8 * size - s.sz) W
  generalize hfs : fsI s = fs at *
  generalize hnn : numB s = nn at *
  obtain ⟨nm, st, sz, bk, sg, mu, di, ad, ky⟩ := s
  unfold sgC at HB HG
  unfold sgV at hW hF ⊢
  simp only at HB HG hN hW hF hF2 hZ ⊢
  clear h hfs hnn
  generalize hE0 : nameB nm.data.toList = e0 at *
  clear hE0
  cases e0 with
  | false =>
    simp only [if_true]
    clear hI hW hF hF2 hZ
    go_enter Tryz.func77, Tryz.ntmps77
    go_wp2_with fail
    refine (hN _).mono ?_
    rintro e w1 ⟨rfl, hw1⟩
    obtain rfl := hw1.symm
    go_wp2_with fail
    go_ret
    exact ⟨rfl, HB.out⟩
  | true =>
    simp only [Bool.true_eq_false, if_false]
    by_cases hs : 0 ≤ size ∧ size ≤ 64
    · rw [inB_yes hs] at hI
      rw [inB_yes hs]
      obtain ⟨hs0, hs1⟩ := hs
      cases nn with
      | false =>
        simp only [Bool.and_false, if_true]
        clear hF hF2 hZ
        go_enter Tryz.func77, Tryz.ntmps77
        go_wp2_with fail
        refine (hN _).mono ?_
        rintro e w1 ⟨rfl, hw1⟩
        obtain rfl := hw1.symm
        go_wp2_with fail
        refine (hI _).mono ?_
        rintro e w1 ⟨rfl, hw1⟩
        obtain rfl := hw1.symm
        go_wp2_with fail
        refine (hW _).mono ?_
        rintro e w1 ⟨rfl, hb1⟩
        have HB1 := Hid.mk (bl2 HB.out hb1)
        clear hb1
        go_wp2_with fail
        go_ret
        exact ⟨rfl, HB1.out⟩
      | true =>
        simp only [Bool.and_true, Bool.true_eq_false, if_false]
        obtain ⟨hz0, hz1⟩ := hZ rfl
        generalize hE2 : inB fs 0 (8 * size - sz) = e2 at *
        clear hE2 hZ
        have HF := Hid.mk hF
        have HF2 := Hid.mk hF2
        clear hF hF2
        cases e2 with
        | false =>
          simp only [if_true]
          go_enter Tryz.func77, Tryz.ntmps77
          go_wp2_with fail
          refine (hN _).mono ?_
          rintro e w1 ⟨rfl, hw1⟩
          obtain rfl := hw1.symm
          go_wp2_with fail
          refine (hI _).mono ?_
          rintro e w1 ⟨rfl, hw1⟩
          obtain rfl := hw1.symm
          go_wp2_with fail
          refine (hW _).mono ?_
          rintro e w1 ⟨rfl, hb1⟩
          have HB1 := Hid.mk (bl2 HB.out hb1)
          have HG1 := Hid.mk (HG.out.kept hb1)
          clear hb1 hN hI hW HG HB
          go_wp2_with fail
          have rx0 := fun d os => (HG1.out.regrown d os).c0
          have rx1 := fun d os => (HG1.out.regrown d os).c1
          have rx2 := fun d os => (HG1.out.regrown d os).c2
          have rx3 := fun d os => (HG1.out.regrown d os).c3
          have rx4 := fun d os => (HG1.out.regrown d os).c4
          have rx5 := fun d os => (HG1.out.regrown d os).c5
          have rx6 := fun d os => (HG1.out.regrown d os).c6
          have rx7 := fun d os => (HG1.out.regrown d os).c7
          have rx8 := fun d os => (HG1.out.regrown d os).c8
          simp only at rx0 rx1 rx2 rx3 rx4 rx5 rx6 rx7 rx8
          refine wp_region_quiet_below (by kernel_rfl) (by kernel_rfl) ?_
          repeat (go_big_quiet_step (first
            | (go_at_call 128; exact Calls.regrown_of (HF.out _))
            | (go_at_call 126; exact Calls.regrown_of (HF2.out _))))
          refine wpQuiet_nil ?_
          intro _ hw'
          obtain ⟨⟨dq, osq⟩, hw''⟩ := hw'
          subst hw''
          have HB2 := Hid.mk (bl2 HB1.out (below_regrown _ dq osq))
          clear rx0 rx1 rx2 rx3 rx4 rx5 rx6 rx7 rx8
          go_wp2_with fail
          go_ret
          exact ⟨rfl, HB2.out⟩
        | true =>
          simp only [Bool.true_eq_false, if_false]
          go_enter Tryz.func77, Tryz.ntmps77
          go_wp2_with fail
          refine (hN _).mono ?_
          rintro e w1 ⟨rfl, hw1⟩
          obtain rfl := hw1.symm
          go_wp2_with fail
          refine (hI _).mono ?_
          rintro e w1 ⟨rfl, hw1⟩
          obtain rfl := hw1.symm
          go_wp2_with fail
          refine (hW _).mono ?_
          rintro e w1 ⟨rfl, hb1⟩
          have HB1 := Hid.mk (bl2 HB.out hb1)
          have HG1 := Hid.mk (HG.out.kept hb1)
          clear hb1 hN hI hW HG HB
          go_wp2_with fail
          have rx0 := fun d os => (HG1.out.regrown d os).c0
          have rx1 := fun d os => (HG1.out.regrown d os).c1
          have rx2 := fun d os => (HG1.out.regrown d os).c2
          have rx3 := fun d os => (HG1.out.regrown d os).c3
          have rx4 := fun d os => (HG1.out.regrown d os).c4
          have rx5 := fun d os => (HG1.out.regrown d os).c5
          have rx6 := fun d os => (HG1.out.regrown d os).c6
          have rx7 := fun d os => (HG1.out.regrown d os).c7
          have rx8 := fun d os => (HG1.out.regrown d os).c8
          simp only at rx0 rx1 rx2 rx3 rx4 rx5 rx6 rx7 rx8
          refine wp_region_quiet_below (by kernel_rfl) (by kernel_rfl) ?_
          repeat (go_big_quiet_step (first
            | (go_at_call 128; exact Calls.regrown_of (HF.out _))
            | (go_at_call 126; exact Calls.regrown_of (HF2.out _))))
          refine wpQuiet_nil ?_
          intro _ hw'
          obtain ⟨⟨dq, osq⟩, hw''⟩ := hw'
          subst hw''
          have HB2 := Hid.mk (bl2 HB1.out (below_regrown _ dq osq))
          clear rx0 rx1 rx2 rx3 rx4 rx5 rx6 rx7 rx8
          go_wp2_with fail
          go_ret
          exact ⟨rfl, HB2.out⟩
    · rw [inB_no hs] at hI
      rw [inB_no hs]
      simp only [Bool.false_and, if_true]
      clear hW hF hF2 hZ hs
      go_enter Tryz.func77, Tryz.ntmps77
      go_wp2_with fail
      refine (hN _).mono ?_
      rintro e w1 ⟨rfl, hw1⟩
      obtain rfl := hw1.symm
      go_wp2_with fail
      refine (hI _).mono ?_
      rintro e w1 ⟨rfl, hw1⟩
      obtain rfl := hw1.symm
      go_wp2_with fail
      go_ret
      exact ⟨rfl, HB.out⟩
end Bw
end Go.Proofs.YtlnkhlifkooohaaGreatDoor
