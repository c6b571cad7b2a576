/- Joined out of our texts: FrRead8. -/
import Derived.Test.YthdhhmflfdbkhaaDoorLawWireTurnsPAL
import Derived.Test.YthdhhmflfdbkhaaDoorLawWireTurnsPAH
/- What the reader's method readFixed does. -/
namespace Go.Proofs.YthdhhmflfdbkhaaDoor
open Go.ChangeShapes Go.WideShapes Go.ChangeAt Go.RowKit
namespace Bw
open Bm Cm Go.Sort

theorem RulesAt.regrown {w : World} (h : RulesAt w) (d : Nat) (os : Array Obj) : RulesAt (grow (redrawn w d) os) := h.kept (below_regrown w d os)
theorem cell_redrawn {w : World} {a : Addr} {v : Value} (h : w.cell? a = some v) (n : Nat) : (w.drewN n).cell? a = some v := h

set_option maxHeartbeats 8000000 in
theorem readFixed_any (g : Nat) (b : ByteArray) (S : RS) (F : Fd) (n : Nat) (dt : List UInt8) (w : World) (h : RdAt w g b S F) (hR : RulesAt w) (hg : 0 ≠ g) (hd : DataAt w g F.d dt) (hdl : dt.length ≤ 64) (hc : checkE b.data.toList = 0) (hi : Inv b.data.toList S n) (hn : n ≤ 600) (hm : Mst S) (hf : Fed S) :
    Calls Tryd.prog 37 #[.pointer (some ⟨g, 0, none⟩)] w fun e w' =>
      e = .returned (.tuple #[]) ∧ RdAt w' g b (fixedP b.data.toList S dt.length) F ∧ Tch [g] w w' := by
  by_cases h0 : S.fl = 0
  · obtain ⟨h1000, hrow⟩ := small_of_check hc
    have hbl : b.data.toList.length = b.size := by simp
    have hu1 : 1 ≤ S.u := by have := hf h0; have := hi.ou; omega
    have hub : S.u ≤ b.size := by have := hi.u; omega
    have hu9 : S.u ≤ 990 := by have h1 := hi.n; have h2 : 4 * S.u ≤ 5 * S.o.length := hm; omega
    have hou := hi.ou
    obtain ⟨a, len, cap, hdv, hby, -⟩ := hd
    have hlen : dt.length = len := hby.1
    have c9 := h.c9
    rw [hdv] at c9
    -- the row so far
    have hXl : (b.extract 0 S.u).data.toList = b.data.toList.take S.u := by
      have := extract_list b 0 S.u
      rw [Nat.zero_add] at this
      rw [this, List.drop_zero]
    generalize hXX : b.extract 0 S.u = X at *
    have HXX := Hid.mk hXX
    clear hXX
    have hXn : (b.data.toList.take S.u).length = S.u := by rw [List.length_take, hbl]; omega
    have hXs : X.size = S.u := by rw [ba_size hXl, hXn]
    have hXr : rowB X.data.toList = true := by rw [hXl]; exact rowB_take hrow _
    -- what is wanted
    have hfp := fun W hW => fixedPart_any X (S.u - S.o.length) len W hW (by omega) (by omega) hXr (by omega)
    have hfl : fastL S.o (b.data.toList.take S.u) dt.length = fixedL X.data.toList (S.u - S.o.length) len := by rw [fastL_fixed, hXn, hXl, hlen]
    have hfn := fixedL_len X.data.toList (S.u - S.o.length) len
    unfold fixedP
    rw [if_pos h0, hfl]
    have hWl := mk_list (fixedL X.data.toList (S.u - S.o.length) len)
    generalize fixedL X.data.toList (S.u - S.o.length) len = wl at *
    have hwn : wl.length ≤ 32 := by rw [hfn]; split <;> omega
    have hgot := fun W F hW => nextB_any g wl.length b S F W hW h1000 hub (by omega)
    have hGr := nextP_row b.data.toList hrow S wl.length
    have hGn := nextP_len b.data.toList S wl.length
    generalize nextP b.data.toList S wl.length = GG at *
    obtain ⟨gt, S1⟩ := GG
    simp only at hgot hGr hGn ⊢
    have hGl := mk_list gt
    generalize ByteArray.mk gt.toArray = G at *
    generalize ByteArray.mk wl.toArray = WW at *
    have hGs : G.size ≤ 32 := by rw [ba_size hGl]; omega
    have hWs : (WW.size : Int) = (wl.length : Int) := by rw [ba_size hWl]
    have hun := fun W => unfixed_any G W (by omega)
    rw [hGl] at hun
    have hUr := unfixL_row gt 0 hGr
    have hUn := unfixL_len gt 0
    have hUl := mk_list (unfixL gt 0)
    generalize unfixL gt 0 = ul at *
    generalize ByteArray.mk ul.toArray = U at *
    have hUs : U.size = ul.length := ba_size hUl
    have hpz : X.size - 1 < X.size := by omega
    have hpi : X[X.size - 1] = X.data.toList.getD (X.size - 1) 0 := at_getD X _ hpz
    have hlb : bit (X.data.toList.getD (X.size - 1) 0) = true := by rw [← hpi]; exact rowB_at hXr _ hpz
    have hlast : lastB (b.data.toList.take S.u) = X.data.toList.getD (X.size - 1) 0 := by unfold lastB; rw [hXn, hXl, hXs]
    rw [hlast]
    have hfx := fun W => fixed_ok U (X.data.toList.getD (X.size - 1) 0) W (checkE_row (by rw [hUl]; exact hUr) (by rw [hUl]; omega)) hlb
    rw [hUl, hUs] at hfx
    have hfix : fixL ul (X.data.toList.getD (X.size - 1) 0) = fixR ul (X.data.toList.getD (X.size - 1) 0) ul.length := rfl
    rw [hfix]
    generalize X.data.toList.getD (X.size - 1) 0 = lb at *
    have hAl := mk_list (fixR ul lb ul.length)
    generalize fixR ul lb ul.length = al at *
    generalize ByteArray.mk al.toArray = AG at *
    have ne1 := str_ne hGl hAl
    have eq1 := str_eq hGl hAl
    have ne2 := str_ne hGl hWl
    have eq2 := str_eq hGl hWl
    have hfail := fun W x hW => fail_any g b S1 F x W hW
    have hq : ((S.u - S.o.length : Nat) : Int) = (X.size : Int) - ((ByteArray.mk S.o.toArray).size : Int) := by have e := mk_size S.o; omega
    simp only [hq] at hfp
    have hOs := mk_size S.o
    have c0 := h.c0
    have c1 := h.c1
    have c2 := h.c2
    have c3 := h.c3
    rw [h0] at c2
    generalize ByteArray.mk S.o.toArray = O at *
    rw [← hWs] at hgot
    have hOX : (O.size : Int) ≤ (X.size : Int) := by omega
    have hX1 : (1 : Int) ≤ (X.size : Int) := by omega
    have hX2 : (X.size : Int) ≤ 990 := by omega
    have hO2 : (O.size : Int) ≤ 990 := by omega
    have hW2 : (WW.size : Int) ≤ 32 := by omega
    have hl2 : (len : Int) ≤ 64 := by omega
    have HFP := Hid.mk hfp
    have HGOT := Hid.mk hgot
    have HUN := Hid.mk hun
    have HFX := Hid.mk hfx
    have HFAIL := Hid.mk hfail
    have H := Hid.mk h
    have HR := Hid.mk hR
    have HG := Hid.mk hg
    have hui : (S.u : Int) ≤ (b.size : Int) := by omega
    have hu0 : (0 : Int) ≤ (S.u : Int) := by omega
    clear h hR hg hfp hgot hun hfx hfail hXl hXr hXn hfl hfn hWl hwn hGr hGn hGl hUr hUn hUl hlb hlast hfix hAl hq hby hdv hlen hdl hc hi hn hm hf hrow hbl hou hOs hWs hUs hXs
    by_cases h1 : gt = al
    · rw [if_pos h1]
      have q1 : (G.toList != AG.toList) = false := by rw [ne1, h1]; simp
      have q2 : (G.toList == AG.toList) = true := by rw [eq1, h1]; simp
      have q3 : G.toList = AG.toList := by simpa using q2
      by_cases h2 : gt = wl
      · rw [if_pos h2]
        have p1 : (G.toList != WW.toList) = false := by rw [ne2, h2]; simp
        have p2 : (G.toList == WW.toList) = true := by rw [eq2, h2]; simp
        have p3 : G.toList = WW.toList := by simpa using p2
        clear ne1 eq1 ne2 eq2 h1 h2 q1 q3 p1 p3
        go_enter Tryd.func37, Tryd.ntmps37
        go_wp2_with fail
        go_quiet (fail)
        rw [HXX.out]
        obtain ⟨w1, hw1⟩ : ∃ w1, w1 = w.drewN nq := ⟨_, rfl⟩
        have hB1 : Below w.heap.size w w1 := by rw [hw1]; exact ⟨rfl, rfl, rfl, Nat.le_refl _, fun _ _ => rfl⟩
        rw [← hw1]
        have r3 := fun d os => cell_regrown (cell_kept hB1 c3) d os
        have r9 := fun d os => cell_regrown (cell_kept hB1 c9) d os
        have H1 := Hid.mk (H.out.kept hB1)
        have HR1 := Hid.mk (HR.out.kept hB1)
        have T1 := Hid.mk (show Tch [g] w w1 from Tch.of hB1)
        clear hw1 hB1 H HR c0 c1 c2 c3 c9
        go_wp2_with fail
        refine wp_region_quiet_below (by kernel_rfl) (by kernel_rfl) ?_
        set_option maxRecDepth 100000 in
        repeat (go_big_quiet_step ((go_at_call 32; exact Calls.regrown_of (HFP.out _ (HR1.out.regrown _ _)))))
        refine wpQuiet_nil ?_
        intro _ hw'
        obtain ⟨⟨dq, osq⟩, hw''⟩ := hw'
        have hbq := below_regrown w1 dq osq
        rw [hw'']
        generalize grow (redrawn w1 dq) osq = w2 at *
        have H2 := Hid.mk (H1.out.kept hbq)
        have T2 := Hid.mk (T1.out.trans (Tch.of hbq))
        clear r3 r9 hw'' hbq H1 HR1 T1 HFP
        go_wp2_with fail
        refine (HGOT.out _ _ H2.out).mono ?_
        rintro e w3 ⟨rfl, h3, t3⟩
        have H3 := Hid.mk h3
        have T3 := Hid.mk (T2.out.trans t3)
        clear h3 t3 H2 T2 HGOT
        go_wp2_with fail
        refine wp_region_quiet_below (by kernel_rfl) (by kernel_rfl) ?_
        set_option maxRecDepth 100000 in
        repeat (go_big_quiet_step (first
          | (go_at_call 66; exact Calls.regrown_of (HUN.out _))
          | (go_at_call 58; exact Calls.regrown_of (HFX.out _))))
        refine wpQuiet_nil ?_
        intro _ hw'
        obtain ⟨⟨dq, osq⟩, hw''⟩ := hw'
        have hbq := below_regrown w3 dq osq
        rw [hw'']
        generalize grow (redrawn w3 dq) osq = w4 at *
        have H4 := Hid.mk (H3.out.kept hbq)
        have T4 := Hid.mk (T3.out.trans (Tch.of hbq))
        clear hw'' hbq H3 T3 HUN HFX
        go_wp2_with fail
        go_end0
        exact ⟨rfl, H4.out, T4.out⟩
      · rw [if_neg h2]
        have p1 : (G.toList != WW.toList) = true := by rw [ne2]; simp [h2]
        have p2 : (G.toList == WW.toList) = false := by rw [eq2]; simp [h2]
        have p3 : ¬ G.toList = WW.toList := by simpa using p2
        clear ne1 eq1 ne2 eq2 h1 h2 q1 q3 p1 p3
        go_enter Tryd.func37, Tryd.ntmps37
        go_wp2_with fail
        go_quiet (fail)
        rw [HXX.out]
        obtain ⟨w1, hw1⟩ : ∃ w1, w1 = w.drewN nq := ⟨_, rfl⟩
        have hB1 : Below w.heap.size w w1 := by rw [hw1]; exact ⟨rfl, rfl, rfl, Nat.le_refl _, fun _ _ => rfl⟩
        rw [← hw1]
        have r3 := fun d os => cell_regrown (cell_kept hB1 c3) d os
        have r9 := fun d os => cell_regrown (cell_kept hB1 c9) d os
        have H1 := Hid.mk (H.out.kept hB1)
        have HR1 := Hid.mk (HR.out.kept hB1)
        have T1 := Hid.mk (show Tch [g] w w1 from Tch.of hB1)
        clear hw1 hB1 H HR c0 c1 c2 c3 c9
        go_wp2_with fail
        refine wp_region_quiet_below (by kernel_rfl) (by kernel_rfl) ?_
        set_option maxRecDepth 100000 in
        repeat (go_big_quiet_step ((go_at_call 32; exact Calls.regrown_of (HFP.out _ (HR1.out.regrown _ _)))))
        refine wpQuiet_nil ?_
        intro _ hw'
        obtain ⟨⟨dq, osq⟩, hw''⟩ := hw'
        have hbq := below_regrown w1 dq osq
        rw [hw'']
        generalize grow (redrawn w1 dq) osq = w2 at *
        have H2 := Hid.mk (H1.out.kept hbq)
        have T2 := Hid.mk (T1.out.trans (Tch.of hbq))
        clear r3 r9 hw'' hbq H1 HR1 T1 HFP
        go_wp2_with fail
        refine (HGOT.out _ _ H2.out).mono ?_
        rintro e w3 ⟨rfl, h3, t3⟩
        have H3 := Hid.mk h3
        have T3 := Hid.mk (T2.out.trans t3)
        clear h3 t3 H2 T2 HGOT
        go_wp2_with fail
        refine wp_region_quiet_below (by kernel_rfl) (by kernel_rfl) ?_
        set_option maxRecDepth 100000 in
        repeat (go_big_quiet_step (first
          | (go_at_call 66; exact Calls.regrown_of (HUN.out _))
          | (go_at_call 58; exact Calls.regrown_of (HFX.out _))))
        refine wpQuiet_nil ?_
        intro _ hw'
        obtain ⟨⟨dq, osq⟩, hw''⟩ := hw'
        have hbq := below_regrown w3 dq osq
        rw [hw'']
        generalize grow (redrawn w3 dq) osq = w4 at *
        have H4 := Hid.mk (H3.out.kept hbq)
        have T4 := Hid.mk (T3.out.trans (Tch.of hbq))
        clear hw'' hbq H3 T3 HUN HFX
        go_wp2_with fail
        refine (HFAIL.out _ 6 H4.out).mono ?_
        rintro e w5 ⟨rfl, h5, t5⟩
        have H5 := Hid.mk h5
        clear h5
        go_wp2_with fail
        go_end0
        exact ⟨rfl, H5.out, T4.out.trans t5⟩
    · rw [if_neg h1]
      have q1 : (G.toList != AG.toList) = true := by rw [ne1]; simp [h1]
      have q2 : (G.toList == AG.toList) = false := by rw [eq1]; simp [h1]
      have q3 : ¬ G.toList = AG.toList := by simpa using q2
      clear ne1 eq1 ne2 eq2 h1 q1 q3
      go_enter Tryd.func37, Tryd.ntmps37
      go_wp2_with fail
      go_quiet (fail)
      rw [HXX.out]
      obtain ⟨w1, hw1⟩ : ∃ w1, w1 = w.drewN nq := ⟨_, rfl⟩
      have hB1 : Below w.heap.size w w1 := by rw [hw1]; exact ⟨rfl, rfl, rfl, Nat.le_refl _, fun _ _ => rfl⟩
      rw [← hw1]
      have r3 := fun d os => cell_regrown (cell_kept hB1 c3) d os
      have r9 := fun d os => cell_regrown (cell_kept hB1 c9) d os
      have H1 := Hid.mk (H.out.kept hB1)
      have HR1 := Hid.mk (HR.out.kept hB1)
      have T1 := Hid.mk (show Tch [g] w w1 from Tch.of hB1)
      clear hw1 hB1 H HR c0 c1 c2 c3 c9
      go_wp2_with fail
      refine wp_region_quiet_below (by kernel_rfl) (by kernel_rfl) ?_
      set_option maxRecDepth 100000 in
      repeat (go_big_quiet_step ((go_at_call 32; exact Calls.regrown_of (HFP.out _ (HR1.out.regrown _ _)))))
      refine wpQuiet_nil ?_
      intro _ hw'
      obtain ⟨⟨dq, osq⟩, hw''⟩ := hw'
      have hbq := below_regrown w1 dq osq
      rw [hw'']
      generalize grow (redrawn w1 dq) osq = w2 at *
      have H2 := Hid.mk (H1.out.kept hbq)
      have T2 := Hid.mk (T1.out.trans (Tch.of hbq))
      clear r3 r9 hw'' hbq H1 HR1 T1 HFP
      go_wp2_with fail
      refine (HGOT.out _ _ H2.out).mono ?_
      rintro e w3 ⟨rfl, h3, t3⟩
      have H3 := Hid.mk h3
      have T3 := Hid.mk (T2.out.trans t3)
      clear h3 t3 H2 T2 HGOT
      go_wp2_with fail
      refine wp_region_quiet_below (by kernel_rfl) (by kernel_rfl) ?_
      set_option maxRecDepth 100000 in
      repeat (go_big_quiet_step (first
        | (go_at_call 66; exact Calls.regrown_of (HUN.out _))
        | (go_at_call 58; exact Calls.regrown_of (HFX.out _))))
      refine wpQuiet_nil ?_
      intro _ hw'
      obtain ⟨⟨dq, osq⟩, hw''⟩ := hw'
      have hbq := below_regrown w3 dq osq
      rw [hw'']
      generalize grow (redrawn w3 dq) osq = w4 at *
      have H4 := Hid.mk (H3.out.kept hbq)
      have T4 := Hid.mk (T3.out.trans (Tch.of hbq))
      clear hw'' hbq H3 T3 HUN HFX
      go_wp2_with fail
      refine (HFAIL.out _ 5 H4.out).mono ?_
      rintro e w5 ⟨rfl, h5, t5⟩
      have H5 := Hid.mk h5
      clear h5
      go_wp2_with fail
      go_end0
      exact ⟨rfl, H5.out, T4.out.trans t5⟩
  · have hp : fixedP b.data.toList S dt.length = S := by unfold fixedP; rw [if_neg h0]
    rw [hp]
    have c2 := h.c2
    have hnb : (S.fl != 0) = true := by simpa using h0
    have H := Hid.mk h
    clear h hp hR hg hd hdl hc hi hn hm hf
    go_enter Tryd.func37, Tryd.ntmps37
    go_wp2_with fail
    (try simp only [Exit.inBlock, Exit.then]); refine bodyPost_ret (results_none rfl _ _ _) rfl ?_
    exact ⟨rfl, H.out, Tch.refl _ _⟩
end Bw
end Go.Proofs.YthdhhmflfdbkhaaDoor
