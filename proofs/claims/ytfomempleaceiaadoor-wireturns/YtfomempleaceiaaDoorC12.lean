/- What frame.Read answers of any text. -/
import Derived.Test.YtfomempleaceiaaDoorC10
import Derived.Test.YtfomempleaceiaaDoorC11
import Derived.Test.YtfomempleaceiaaDoorC4
import Derived.Test.YtfomempleaceiaaDoorC13
namespace Go.Proofs.YtfomempleaceiaaDoor
open Go.ChangeShapes Go.WideShapes Go.ChangeAt Go.RowKit
namespace Bw
open Bm Cm Go.Sort

theorem RulesAt.regrown {w : World} (h : RulesAt w) (d : Nat) (os : Array Obj) : RulesAt (grow (redrawn w d) os) := h.kept (below_regrown w d os)
theorem cell_redrawn {w : World} {a : Addr} {v : Value} (h : w.cell? a = some v) (n : Nat) : (w.drewN n).cell? a = some v := h

set_option maxHeartbeats 8000000 in
theorem readFixed_any (g : Nat) (b : ByteArray) (S : RS) (F : Fd) (n : Nat) (dt : List UInt8) (w : World) (h : RdAt w g b S F) (hR : RulesAt w) (hg : 0 ≠ g) (hd : DataAt w g F.d dt) (hdl : dt.length ≤ 64) (hc : checkE b.data.toList = 0) (hi : Inv b.data.toList S n) (hn : n ≤ 600) (hm : Mst S) (hf : Fed S) :
    Calls Tryd.prog 37 #[.pointer (some ⟨g, 0, none⟩)] w fun e w' =>
      e = .returned (.tuple #[]) ∧ RdAt w' g b (fixedP b.data.toList S dt.length) F ∧ Tch [g] w w' := by
  by_cases h0 : S.fl = 0
  · obtain ⟨h1000, hrow⟩ := small_of_check hc
    have hbl : b.data.toList.length = b.size := by simp
    have hu1 : 1 ≤ S.u := by have := hf h0; have := hi.ou; omega
    have hub : S.u ≤ b.size := by have := hi.u; omega
    have hu9 : S.u ≤ 990 := by have h1 := hi.n; have h2 : 4 * S.u ≤ 5 * S.o.length := hm; omega
    have hou := hi.ou
    obtain ⟨a, len, cap, hdv, hby, -⟩ := hd
    have hlen : dt.length = len := hby.1
    have c9 := h.c9
    rw [hdv] at c9
    -- the row so far
    have hXl : (b.extract 0 S.u).data.toList = b.data.toList.take S.u := by
      have := extract_list b 0 S.u
      rw [Nat.zero_add] at this
      rw [this, List.drop_zero]
    generalize hXX : b.extract 0 S.u = X at *
    have HXX := Hid.mk hXX
    clear hXX
    have hXn : (b.data.toList.take S.u).length = S.u := by rw [List.length_take, hbl]; omega
    have hXs : X.size = S.u := by rw [ba_size hXl, hXn]
    have hXr : rowB X.data.toList = true := by rw [hXl]; exact rowB_take hrow _
    -- what is wanted
    have hfp := fun W hW => fixedPart_any X (S.u - S.o.length) len W hW (by omega) (by omega) hXr (by omega)
    have hfl : fastL S.o (b.data.toList.take S.u) dt.length = fixedL X.data.toList (S.u - S.o.length) len := by rw [fastL_fixed, hXn, hXl, hlen]
    have hfn := fixedL_len X.data.toList (S.u - S.o.length) len
    unfold fixedP
    rw [if_pos h0, hfl]
    have hWl := mk_list (fixedL X.data.toList (S.u - S.o.length) len)
    generalize fixedL X.data.toList (S.u - S.o.length) len = wl at *
    have hwn : wl.length ≤ 32 := by rw [hfn]; split <;> omega
    have hgot := fun W F hW => nextB_any g wl.length b S F W hW h1000 hub (by omega)
    have hGr := nextP_row b.data.toList hrow S wl.length
    have hGn := nextP_len b.data.toList S wl.length
    generalize nextP b.data.toList S wl.length = GG at *
    obtain ⟨gt, S1⟩ := GG
    simp only at hgot hGr hGn ⊢
    have hGl := mk_list gt
    generalize ByteArray.mk gt.toArray = G at *
    generalize ByteArray.mk wl.toArray = WW at *
    have hGs : G.size ≤ 32 := by rw [ba_size hGl]; omega
    have hWs : (WW.size : Int) = (wl.length : Int) := by rw [ba_size hWl]
    have hun := fun W => unfixed_any G W (by omega)
    rw [hGl] at hun
    have hUr := unfixL_row gt 0 hGr
    have hUn := unfixL_len gt 0
    have hUl := mk_list (unfixL gt 0)
    generalize unfixL gt 0 = ul at *
    generalize ByteArray.mk ul.toArray = U at *
    have hUs : U.size = ul.length := ba_size hUl
    have hpz : X.size - 1 < X.size := by omega
    have hpi : X[X.size - 1] = X.data.toList.getD (X.size - 1) 0 := at_getD X _ hpz
    have hlb : bit (X.data.toList.getD (X.size - 1) 0) = true := by rw [← hpi]; exact rowB_at hXr _ hpz
    have hlast : lastB (b.data.toList.take S.u) = X.data.toList.getD (X.size - 1) 0 := by unfold lastB; rw [hXn, hXl, hXs]
    rw [hlast]
    have hfx := fun W => fixed_ok U (X.data.toList.getD (X.size - 1) 0) W (checkE_row (by rw [hUl]; exact hUr) (by rw [hUl]; omega)) hlb
    rw [hUl, hUs] at hfx
    have hfix : fixL ul (X.data.toList.getD (X.size - 1) 0) = fixR ul (X.data.toList.getD (X.size - 1) 0) ul.length := rfl
    rw [hfix]
    generalize X.data.toList.getD (X.size - 1) 0 = lb at *
    have hAl := mk_list (fixR ul lb ul.length)
    generalize fixR ul lb ul.length = al at *
    generalize ByteArray.mk al.toArray = AG at *
    have ne1 := str_ne hGl hAl
    have eq1 := str_eq hGl hAl
    have ne2 := str_ne hGl hWl
    have eq2 := str_eq hGl hWl
    have hfail := fun W x hW => fail_any g b S1 F x W hW
    have hq : ((S.u - S.o.length : Nat) : Int) = (X.size : Int) - ((ByteArray.mk S.o.toArray).size : Int) := by have e := mk_size S.o; omega
    simp only [hq] at hfp
    have hOs := mk_size S.o
    have c0 := h.c0
    have c1 := h.c1
    have c2 := h.c2
    have c3 := h.c3
    rw [h0] at c2
    generalize ByteArray.mk S.o.toArray = O at *
    rw [← hWs] at hgot
    have hOX : (O.size : Int) ≤ (X.size : Int) := by omega
    have hX1 : (1 : Int) ≤ (X.size : Int) := by omega
    have hX2 : (X.size : Int) ≤ 990 := by omega
    have hO2 : (O.size : Int) ≤ 990 := by omega
    have hW2 : (WW.size : Int) ≤ 32 := by omega
    have hl2 : (len : Int) ≤ 64 := by omega
    have HFP := Hid.mk hfp
    have HGOT := Hid.mk hgot
    have HUN := Hid.mk hun
    have HFX := Hid.mk hfx
    have HFAIL := Hid.mk hfail
    have H := Hid.mk h
    have HR := Hid.mk hR
    have HG := Hid.mk hg
    have hui : (S.u : Int) ≤ (b.size : Int) := by omega
    have hu0 : (0 : Int) ≤ (S.u : Int) := by omega
    clear h hR hg hfp hgot hun hfx hfail hXl hXr hXn hfl hfn hWl hwn hGr hGn hGl hUr hUn hUl hlb hlast hfix hAl hq hby hdv hlen hdl hc hi hn hm hf hrow hbl hou hOs hWs hUs hXs
    by_cases h1 : gt = al
    · rw [if_pos h1]
      have q1 : (G.toList != AG.toList) = false := by rw [ne1, h1]; simp
      have q2 : (G.toList == AG.toList) = true := by rw [eq1, h1]; simp
      have q3 : G.toList = AG.toList := by simpa using q2
      by_cases h2 : gt = wl
      · rw [if_pos h2]
        have p1 : (G.toList != WW.toList) = false := by rw [ne2, h2]; simp
        have p2 : (G.toList == WW.toList) = true := by rw [eq2, h2]; simp
        have p3 : G.toList = WW.toList := by simpa using p2
        clear ne1 eq1 ne2 eq2 h1 h2 q1 q3 p1 p3
        go_enter Tryd.func37, Tryd.ntmps37
        go_wp2_with fail
        go_quiet (fail)
        rw [HXX.out]
        obtain ⟨w1, hw1⟩ : ∃ w1, w1 = w.drewN nq := ⟨_, rfl⟩
        have hB1 : Below w.heap.size w w1 := by rw [hw1]; exact ⟨rfl, rfl, rfl, Nat.le_refl _, fun _ _ => rfl⟩
        rw [← hw1]
        have r3 := fun d os => cell_regrown (cell_kept hB1 c3) d os
        have r9 := fun d os => cell_regrown (cell_kept hB1 c9) d os
        have H1 := Hid.mk (H.out.kept hB1)
        have HR1 := Hid.mk (HR.out.kept hB1)
        have T1 := Hid.mk (show Tch [g] w w1 from Tch.of hB1)
        clear hw1 hB1 H HR c0 c1 c2 c3 c9
        go_wp2_with fail
        refine wp_region_quiet_below (by kernel_rfl) (by kernel_rfl) ?_
        set_option maxRecDepth 100000 in
        repeat (go_big_quiet_step ((go_at_call 32; exact Calls.regrown_of (HFP.out _ (HR1.out.regrown _ _)))))
        refine wpQuiet_nil ?_
        intro _ hw'
        obtain ⟨⟨dq, osq⟩, hw''⟩ := hw'
        have hbq := below_regrown w1 dq osq
        rw [hw'']
        generalize grow (redrawn w1 dq) osq = w2 at *
        have H2 := Hid.mk (H1.out.kept hbq)
        have T2 := Hid.mk (T1.out.trans (Tch.of hbq))
        clear r3 r9 hw'' hbq H1 HR1 T1 HFP
        go_wp2_with fail
        refine (HGOT.out _ _ H2.out).mono ?_
        rintro e w3 ⟨rfl, h3, t3⟩
        have H3 := Hid.mk h3
        have T3 := Hid.mk (T2.out.trans t3)
        clear h3 t3 H2 T2 HGOT
        go_wp2_with fail
        refine wp_region_quiet_below (by kernel_rfl) (by kernel_rfl) ?_
        set_option maxRecDepth 100000 in
        repeat (go_big_quiet_step (first
          | (go_at_call 66; exact Calls.regrown_of (HUN.out _))
          | (go_at_call 58; exact Calls.regrown_of (HFX.out _))))
        refine wpQuiet_nil ?_
        intro _ hw'
        obtain ⟨⟨dq, osq⟩, hw''⟩ := hw'
        have hbq := below_regrown w3 dq osq
        rw [hw'']
        generalize grow (redrawn w3 dq) osq = w4 at *
        have H4 := Hid.mk (H3.out.kept hbq)
        have T4 := Hid.mk (T3.out.trans (Tch.of hbq))
        clear hw'' hbq H3 T3 HUN HFX
        go_wp2_with fail
        go_end0
        exact ⟨rfl, H4.out, T4.out⟩
      · rw [if_neg h2]
        have p1 : (G.toList != WW.toList) = true := by rw [ne2]; simp [h2]
        have p2 : (G.toList == WW.toList) = false := by rw [eq2]; simp [h2]
        have p3 : ¬ G.toList = WW.toList := by simpa using p2
        clear ne1 eq1 ne2 eq2 h1 h2 q1 q3 p1 p3
        go_enter Tryd.func37, Tryd.ntmps37
        go_wp2_with fail
        go_quiet (fail)
        rw [HXX.out]
        obtain ⟨w1, hw1⟩ : ∃ w1, w1 = w.drewN nq := ⟨_, rfl⟩
        have hB1 : Below w.heap.size w w1 := by rw [hw1]; exact ⟨rfl, rfl, rfl, Nat.le_refl _, fun _ _ => rfl⟩
        rw [← hw1]
        have r3 := fun d os => cell_regrown (cell_kept hB1 c3) d os
        have r9 := fun d os => cell_regrown (cell_kept hB1 c9) d os
        have H1 := Hid.mk (H.out.kept hB1)
        have HR1 := Hid.mk (HR.out.kept hB1)
        have T1 := Hid.mk (show Tch [g] w w1 from Tch.of hB1)
        clear hw1 hB1 H HR c0 c1 c2 c3 c9
        go_wp2_with fail
        refine wp_region_quiet_below (by kernel_rfl) (by kernel_rfl) ?_
        set_option maxRecDepth 100000 in
        repeat (go_big_quiet_step ((go_at_call 32; exact Calls.regrown_of (HFP.out _ (HR1.out.regrown _ _)))))
        refine wpQuiet_nil ?_
        intro _ hw'
        obtain ⟨⟨dq, osq⟩, hw''⟩ := hw'
        have hbq := below_regrown w1 dq osq
        rw [hw'']
        generalize grow (redrawn w1 dq) osq = w2 at *
        have H2 := Hid.mk (H1.out.kept hbq)
        have T2 := Hid.mk (T1.out.trans (Tch.of hbq))
        clear r3 r9 hw'' hbq H1 HR1 T1 HFP
        go_wp2_with fail
        refine (HGOT.out _ _ H2.out).mono ?_
        rintro e w3 ⟨rfl, h3, t3⟩
        have H3 := Hid.mk h3
        have T3 := Hid.mk (T2.out.trans t3)
        clear h3 t3 H2 T2 HGOT
        go_wp2_with fail
        refine wp_region_quiet_below (by kernel_rfl) (by kernel_rfl) ?_
        set_option maxRecDepth 100000 in
        repeat (go_big_quiet_step (first
          | (go_at_call 66; exact Calls.regrown_of (HUN.out _))
          | (go_at_call 58; exact Calls.regrown_of (HFX.out _))))
        refine wpQuiet_nil ?_
        intro _ hw'
        obtain ⟨⟨dq, osq⟩, hw''⟩ := hw'
        have hbq := below_regrown w3 dq osq
        rw [hw'']
        generalize grow (redrawn w3 dq) osq = w4 at *
        have H4 := Hid.mk (H3.out.kept hbq)
        have T4 := Hid.mk (T3.out.trans (Tch.of hbq))
        clear hw'' hbq H3 T3 HUN HFX
        go_wp2_with fail
        refine (HFAIL.out _ 6 H4.out).mono ?_
        rintro e w5 ⟨rfl, h5, t5⟩
        have H5 := Hid.mk h5
        clear h5
        go_wp2_with fail
        go_end0
        exact ⟨rfl, H5.out, T4.out.trans t5⟩
    · rw [if_neg h1]
      have q1 : (G.toList != AG.toList) = true := by rw [ne1]; simp [h1]
      have q2 : (G.toList == AG.toList) = false := by rw [eq1]; simp [h1]
      have q3 : ¬ G.toList = AG.toList := by simpa using q2
      clear ne1 eq1 ne2 eq2 h1 q1 q3
      go_enter Tryd.func37, Tryd.ntmps37
      go_wp2_with fail
      go_quiet (fail)
      rw [HXX.out]
      obtain ⟨w1, hw1⟩ : ∃ w1, w1 = w.drewN nq := ⟨_, rfl⟩
      have hB1 : Below w.heap.size w w1 := by rw [hw1]; exact ⟨rfl, rfl, rfl, Nat.le_refl _, fun _ _ => rfl⟩
      rw [← hw1]
      have r3 := fun d os => cell_regrown (cell_kept hB1 c3) d os
      have r9 := fun d os => cell_regrown (cell_kept hB1 c9) d os
      have H1 := Hid.mk (H.out.kept hB1)
      have HR1 := Hid.mk (HR.out.kept hB1)
      have T1 := Hid.mk (show Tch [g] w w1 from Tch.of hB1)
      clear hw1 hB1 H HR c0 c1 c2 c3 c9
      go_wp2_with fail
      refine wp_region_quiet_below (by kernel_rfl) (by kernel_rfl) ?_
      set_option maxRecDepth 100000 in
      repeat (go_big_quiet_step ((go_at_call 32; exact Calls.regrown_of (HFP.out _ (HR1.out.regrown _ _)))))
      refine wpQuiet_nil ?_
      intro _ hw'
      obtain ⟨⟨dq, osq⟩, hw''⟩ := hw'
      have hbq := below_regrown w1 dq osq
      rw [hw'']
      generalize grow (redrawn w1 dq) osq = w2 at *
      have H2 := Hid.mk (H1.out.kept hbq)
      have T2 := Hid.mk (T1.out.trans (Tch.of hbq))
      clear r3 r9 hw'' hbq H1 HR1 T1 HFP
      go_wp2_with fail
      refine (HGOT.out _ _ H2.out).mono ?_
      rintro e w3 ⟨rfl, h3, t3⟩
      have H3 := Hid.mk h3
      have T3 := Hid.mk (T2.out.trans t3)
      clear h3 t3 H2 T2 HGOT
      go_wp2_with fail
      refine wp_region_quiet_below (by kernel_rfl) (by kernel_rfl) ?_
      set_option maxRecDepth 100000 in
      repeat (go_big_quiet_step (first
        | (go_at_call 66; exact Calls.regrown_of (HUN.out _))
        | (go_at_call 58; exact Calls.regrown_of (HFX.out _))))
      refine wpQuiet_nil ?_
      intro _ hw'
      obtain ⟨⟨dq, osq⟩, hw''⟩ := hw'
      have hbq := below_regrown w3 dq osq
      rw [hw'']
      generalize grow (redrawn w3 dq) osq = w4 at *
      have H4 := Hid.mk (H3.out.kept hbq)
      have T4 := Hid.mk (T3.out.trans (Tch.of hbq))
      clear hw'' hbq H3 T3 HUN HFX
      go_wp2_with fail
      refine (HFAIL.out _ 5 H4.out).mono ?_
      rintro e w5 ⟨rfl, h5, t5⟩
      have H5 := Hid.mk h5
      clear h5
      go_wp2_with fail
      go_end0
      exact ⟨rfl, H5.out, T4.out.trans t5⟩
  · have hp : fixedP b.data.toList S dt.length = S := by unfold fixedP; rw [if_neg h0]
    rw [hp]
    have c2 := h.c2
    have hnb : (S.fl != 0) = true := by simpa using h0
    have H := Hid.mk h
    clear h hp hR hg hd hdl hc hi hn hm hf
    go_enter Tryd.func37, Tryd.ntmps37
    go_wp2_with fail
    (try simp only [Exit.inBlock, Exit.then]); refine bodyPost_ret (results_none rfl _ _ _) rfl ?_
    exact ⟨rfl, H.out, Tch.refl _ _⟩
end Bw
end Go.Proofs.YtfomempleaceiaaDoor
namespace Go.Proofs.YtfomempleaceiaaDoor
open Go.ChangeShapes Go.WideShapes Go.ChangeAt Go.RowKit
namespace Bw
open Bm Cm Go.Sort

theorem frame_i : (Tryd.prog.info? 30).map (·.size) = some 6 := by kernel_rfl
/-- what Read hands back: the frame out of its variable, and two numbers -/
theorem read_results (tmps : Array Value) (w : World) (g : Nat) (cs : Array Value) (x y : Value) (hp : tmps.getD 2 undef = .pointer (some ⟨g, 0, none⟩)) (hx : tmps.getD 3 undef = x) (hy : tmps.getD 4 undef = y) (h : w.heap[g]? = some (.cells cs 30 (0, 0))) (hs : cs.size = 6) :
    (results Tryd.f14 tmps).run Tryd.prog w = .ok (.tuple #[.agg cs, x, y]) w := by
  have hl := run_loadVar_row (P := Tryd.prog) w g 30 30 cs (0, 0) _ h Tryd.underlying30 rfl (by rw [frame_i, hs])
  have hp' : tmps[2]?.getD undef = .pointer (some ⟨g, 0, none⟩) := by simpa using hp
  have hx' : tmps[3]?.getD undef = x := by simpa using hx
  have hy' : tmps[4]?.getD undef = y := by simpa using hy
  simp [results, hp', hx', hy', asAddr, hl]
def zeroC : Obj := .cells #[.int .i64 0, .bool false, .bool false, .bool false, .int .i64 0, .slice none 0 0] 30
set_option maxHeartbeats 4000000 in
theorem read_bad (b : ByteArray) (w : World) (hs : b.size ≤ maxLen) (hc : checkE b.data.toList ≠ 0) :
    Calls Tryd.prog 14 #[.string b] w fun e w' => e = .returned (.tuple #[frameV 0 false false false 0 none 0 0, .int .i64 0, .int .i64 (checkE b.data.toList)]) ∧ Below w.heap.size w w' := by
  have h1 := fun W => check_any b W hs
  have hne : (checkE b.data.toList != 0) = true := by simpa using hc
  generalize checkE b.data.toList = ce at *
  have hB0 : Below w.heap.size w (w.alloc zeroC) := (Below.refl _ _).alloc (Nat.le_refl _) _
  have hA0 := heap_alloc_new w zeroC
  unfold zeroC at hB0 hA0
  have H1 := Hid.mk h1
  clear h1 hc hs
  go_enter Tryd.func14, Tryd.ntmps14
  go_wp2_with fail
  refine (H1.out _).mono ?_
  rintro e w1 ⟨rfl, hb1⟩
  have hB1 := bl2 hB0 hb1
  have hA1 := hb1.block w.heap.size (by simp)
  rw [hA0] at hA1
  have HB1 := Hid.mk hB1
  clear hB0 hA0 hb1 hB1 H1
  have kc0 := cell_of_row w1 w.heap.size 0 _ _ _ hA1
  have kz0 := frozen_of_row w1 w.heap.size 0 _ _ hA1
  have ks0 := heap_setCell_same w1 w.heap.size 0 _ _ (.int .i64 0) hA1
  simp only [List.setIfInBounds_toArray, List.set_cons_zero] at ks0
  simp at kc0
  have kc1 := cell_of_row (w1.setCell ⟨w.heap.size, 0, none⟩ (.int .i64 0)) w.heap.size 1 _ _ _ ks0
  have kz1 := frozen_of_row (w1.setCell ⟨w.heap.size, 0, none⟩ (.int .i64 0)) w.heap.size 1 _ _ ks0
  have ks1 := heap_setCell_same (w1.setCell ⟨w.heap.size, 0, none⟩ (.int .i64 0)) w.heap.size 1 _ _ (.bool false) ks0
  simp only [List.setIfInBounds_toArray, List.set_cons_zero, List.set_cons_succ] at ks1
  simp at kc1
  have kc2 := cell_of_row ((w1.setCell ⟨w.heap.size, 0, none⟩ (.int .i64 0)).setCell ⟨w.heap.size, 1, none⟩ (.bool false)) w.heap.size 2 _ _ _ ks1
  have kz2 := frozen_of_row ((w1.setCell ⟨w.heap.size, 0, none⟩ (.int .i64 0)).setCell ⟨w.heap.size, 1, none⟩ (.bool false)) w.heap.size 2 _ _ ks1
  have ks2 := heap_setCell_same ((w1.setCell ⟨w.heap.size, 0, none⟩ (.int .i64 0)).setCell ⟨w.heap.size, 1, none⟩ (.bool false)) w.heap.size 2 _ _ (.bool false) ks1
  simp only [List.setIfInBounds_toArray, List.set_cons_zero, List.set_cons_succ] at ks2
  simp at kc2
  have kc3 := cell_of_row (((w1.setCell ⟨w.heap.size, 0, none⟩ (.int .i64 0)).setCell ⟨w.heap.size, 1, none⟩ (.bool false)).setCell ⟨w.heap.size, 2, none⟩ (.bool false)) w.heap.size 3 _ _ _ ks2
  have kz3 := frozen_of_row (((w1.setCell ⟨w.heap.size, 0, none⟩ (.int .i64 0)).setCell ⟨w.heap.size, 1, none⟩ (.bool false)).setCell ⟨w.heap.size, 2, none⟩ (.bool false)) w.heap.size 3 _ _ ks2
  have ks3 := heap_setCell_same (((w1.setCell ⟨w.heap.size, 0, none⟩ (.int .i64 0)).setCell ⟨w.heap.size, 1, none⟩ (.bool false)).setCell ⟨w.heap.size, 2, none⟩ (.bool false)) w.heap.size 3 _ _ (.bool false) ks2
  simp only [List.setIfInBounds_toArray, List.set_cons_zero, List.set_cons_succ] at ks3
  simp at kc3
  have kc4 := cell_of_row ((((w1.setCell ⟨w.heap.size, 0, none⟩ (.int .i64 0)).setCell ⟨w.heap.size, 1, none⟩ (.bool false)).setCell ⟨w.heap.size, 2, none⟩ (.bool false)).setCell ⟨w.heap.size, 3, none⟩ (.bool false)) w.heap.size 4 _ _ _ ks3
  have kz4 := frozen_of_row ((((w1.setCell ⟨w.heap.size, 0, none⟩ (.int .i64 0)).setCell ⟨w.heap.size, 1, none⟩ (.bool false)).setCell ⟨w.heap.size, 2, none⟩ (.bool false)).setCell ⟨w.heap.size, 3, none⟩ (.bool false)) w.heap.size 4 _ _ ks3
  have ks4 := heap_setCell_same ((((w1.setCell ⟨w.heap.size, 0, none⟩ (.int .i64 0)).setCell ⟨w.heap.size, 1, none⟩ (.bool false)).setCell ⟨w.heap.size, 2, none⟩ (.bool false)).setCell ⟨w.heap.size, 3, none⟩ (.bool false)) w.heap.size 4 _ _ (.int .i64 0) ks3
  simp only [List.setIfInBounds_toArray, List.set_cons_zero, List.set_cons_succ] at ks4
  simp at kc4
  have kc5 := cell_of_row (((((w1.setCell ⟨w.heap.size, 0, none⟩ (.int .i64 0)).setCell ⟨w.heap.size, 1, none⟩ (.bool false)).setCell ⟨w.heap.size, 2, none⟩ (.bool false)).setCell ⟨w.heap.size, 3, none⟩ (.bool false)).setCell ⟨w.heap.size, 4, none⟩ (.int .i64 0)) w.heap.size 5 _ _ _ ks4
  have kz5 := frozen_of_row (((((w1.setCell ⟨w.heap.size, 0, none⟩ (.int .i64 0)).setCell ⟨w.heap.size, 1, none⟩ (.bool false)).setCell ⟨w.heap.size, 2, none⟩ (.bool false)).setCell ⟨w.heap.size, 3, none⟩ (.bool false)).setCell ⟨w.heap.size, 4, none⟩ (.int .i64 0)) w.heap.size 5 _ _ ks4
  have ks5 := heap_setCell_same (((((w1.setCell ⟨w.heap.size, 0, none⟩ (.int .i64 0)).setCell ⟨w.heap.size, 1, none⟩ (.bool false)).setCell ⟨w.heap.size, 2, none⟩ (.bool false)).setCell ⟨w.heap.size, 3, none⟩ (.bool false)).setCell ⟨w.heap.size, 4, none⟩ (.int .i64 0)) w.heap.size 5 _ _ (.slice none 0 0) ks4
  simp only [List.setIfInBounds_toArray, List.set_cons_zero, List.set_cons_succ] at ks5
  simp at kc5
  have HFIN := Hid.mk ks5
  go_wp2_with fail
  refine bodyPost_ret (read_results _ _ w.heap.size _ _ _ rfl rfl rfl HFIN.out rfl) rfl ?_
  refine ⟨rfl, ?_⟩
  exact Tch.below HB1.out ((((((((Tch.refl [w.heap.size] w1).setK (by simp) _ _).setK (by simp) _ _).setK (by simp) _ _).setK (by simp) _ _).setK (by simp) _ _).setK (by simp) _ _)) (by simp) (Nat.le_refl _)
def rdZ : Obj := .cells #[.string ⟨#[]⟩, .int .i64 0, .int .i64 0, .string ⟨#[]⟩, .int .i64 0, .bool false, .bool false, .bool false, .int .i64 0, .slice none 0 0] 67
theorem isBytes_tch {gs : List Nat} {w w' : World} {a : Option Addr} {len cap : Nat} {l : List UInt8} (hb : IsBytes w a len cap l) (ht : Tch gs w w') (hg : ∀ x, a = some x → x.block ∉ gs) : IsBytes w' a len cap l := by
  refine ⟨hb.1, hb.2.1, hb.2.2.1, hb.2.2.2.1, fun x hx i hi => ?_⟩
  have hv := hb.2.2.2.2 x hx i hi
  have hlt := block_lt_of_cell hv
  have hblk : (x.add i).block = x.block := by unfold Addr.add; split <;> rfl
  unfold World.cell? at hv ⊢
  rw [ht.block _ hlt (by rw [hblk]; exact hg x hx)]
  exact hv
theorem heap_drew (w : World) : w.drew.heap = w.heap := rfl
theorem isBytes_drew {w : World} {a : Option Addr} {len cap : Nat} {l : List UInt8} (h : IsBytes w a len cap l) : IsBytes w.drew a len cap l := h
theorem row_drew {w : World} {g : Nat} {o : Obj} (h : w.heap[g]? = some o) : w.drew.heap[g]? = some o := h
theorem fixed_inv {b : List UInt8} {S : RS} {n : Nat} (h : Inv b S n) (k : Nat) : Inv b (fixedP b S k) n := by
  unfold fixedP
  split
  · split
    · split
      · exact h.next _
      · exact (h.next _).fail 6
    · exact (h.next _).fail 5
  · exact h
theorem sum_inv {b : List UInt8} (hb : rowB b = true) {S : RS} {n : Nat} (h : Inv b S n) : Inv b (sumP b S) (n + 15) := by
  unfold sumP
  split
  · exact h.take hb 15
  · exact (h.take hb 15).fail 6
set_option maxHeartbeats 16000000 in
theorem read_ok (b : ByteArray) (w : World) (hS : SizesAt w) (hR : RulesAt w) (hc : checkE b.data.toList = 0) :
    Calls Tryd.prog 14 #[.string b] w fun e w' => ((rdE b.data.toList).fl ≠ 0 → e = .returned (.tuple #[frameV 0 false false false 0 none 0 0, .int .i64 0, .int .i64 (rdE b.data.toList).fl])) ∧
      ((rdE b.data.toList).fl = 0 → ∃ a len cap, e = .returned (.tuple #[frameV (rdF b.data.toList).id (rdF b.data.toList).lo (rdF b.data.toList).fa (rdF b.data.toList).re (rdF b.data.toList).sz a len cap, .int .i64 (rdE b.data.toList).u, .int .i64 0]) ∧ IsBytes w' a len cap (rdF b.data.toList).dt) ∧ Below w.heap.size w w' := by
  obtain ⟨h1000, hrow⟩ := small_of_check hc
  have hbl : b.data.toList.length = b.size := by simp
  have hck := fun W => check_any b W (by unfold maxLen; omega)
  rw [hc] at hck
  have iA := name_inv hrow (Inv.start b.data.toList) Mst.start
  have iB := form_inv hrow iA.1 iA.2.1 (rdA b.data.toList).lo (rdA b.data.toList).re
  have iD := data_inv hrow iB.1 iB.2.1 (rdB b.data.toList).2 (rdA b.data.toList).re
  have hdl := data_len b.data.toList hrow (rdB b.data.toList).1 (rdB b.data.toList).2 (rdA b.data.toList).re
  have a1 := fun (g : Nat) (W : World) hW => readName_any g b ⟨0, 0, []⟩ ⟨0, false, false, false, 0, .slice none 0 0⟩ 0 W hW hc (Inv.start _) (by omega)
  have a2 := fun (g : Nat) (W : World) hW => readForm_any g b (rdA b.data.toList).S ⟨(rdA b.data.toList).id, (rdA b.data.toList).lo, false, (rdA b.data.toList).re, 0, .slice none 0 0⟩ _ W hW hc iA.1 (by omega)
  have a3 := fun (g : Nat) (W : World) hW hSW hg => readData_any g b (rdB b.data.toList).1 (rdA b.data.toList).id (rdA b.data.toList).lo (rdB b.data.toList).2 (rdA b.data.toList).re _ W hW hSW hg hc iB.1 (by omega)
  have a4 := fun (g : Nat) (W : World) F hW hRW hg hd => readFixed_any g b (rdD b.data.toList).S F _ (rdD b.data.toList).dt W hW hRW hg hd hdl hc iD.1 (by omega) iD.2.1 iD.2.2
  have a5 := fun (g : Nat) (W : World) F hW hRW => readSum_any g b (rdD b.data.toList).S F _ W hW hRW hc iD.1 (by omega)
  have iS : Inv b.data.toList (rdS b.data.toList) 600 := by
    unfold rdS
    split
    · exact (fixed_inv iD.1 _).up (by omega)
    · exact (sum_inv hrow iD.1).up (by omega)
  have a6 := fun (g : Nat) (W : World) F hW => readEnding_any g b (rdS b.data.toList) F W hW h1000 (by have := iS.u; omega)
  have q1 : nameP b.data.toList ⟨0, 0, []⟩ = rdA b.data.toList := rfl
  have q2 : formP b.data.toList (rdA b.data.toList).S (rdA b.data.toList).lo (rdA b.data.toList).re = rdB b.data.toList := rfl
  have q3 : dataP b.data.toList (rdB b.data.toList).1 (rdB b.data.toList).2 (rdA b.data.toList).re = rdD b.data.toList := rfl
  have q6 : endP b.data.toList (rdS b.data.toList) = rdE b.data.toList := rfl
  have q4 : rdS b.data.toList = if (rdB b.data.toList).2 then fixedP b.data.toList (rdD b.data.toList).S (rdD b.data.toList).dt.length else sumP b.data.toList (rdD b.data.toList).S := rfl
  rw [q1] at a1
  rw [q2] at a2
  rw [q3] at a3
  rw [q6] at a6
  unfold rdF
  simp only
  simp only at a2
  generalize rdA b.data.toList = A at *
  generalize rdB b.data.toList = BB at *
  generalize rdD b.data.toList = D at *
  generalize rdS b.data.toList = S5 at *
  generalize rdE b.data.toList = E at *
  obtain ⟨S2, fa⟩ := BB
  simp only at a2 a3 q4 ⊢
  have hB0 : Below w.heap.size w (w.alloc zeroC) := (Below.refl _ _).alloc (Nat.le_refl _) _
  have hA0 := heap_alloc_new w zeroC
  unfold zeroC at hB0 hA0
  have HCK := Hid.mk hck
  have HA1 := Hid.mk a1
  have HA2 := Hid.mk a2
  have HA3 := Hid.mk a3
  have HA4 := Hid.mk a4
  have HA5 := Hid.mk a5
  have HA6 := Hid.mk a6
  have HS := Hid.mk hS
  have HR := Hid.mk hR
  have HGS := Hid.mk (show 1 < w.heap.size from block_lt_of_cell (hS 0 (by decide)))
  have HGR := Hid.mk (show 0 < w.heap.size from block_lt_of_cell (hR 0 (by omega)).1)
  clear hck a1 a2 a3 a4 a5 a6 hS hR iA iB iD iS hdl q1 q2 q3 q6 hbl hrow hc
  go_enter Tryd.func14, Tryd.ntmps14
  go_wp2_with fail
  refine (HCK.out _).mono ?_
  rintro e w1 ⟨rfl, hb1⟩
  have hB1 := bl2 hB0 hb1
  have hA1 := hb1.block w.heap.size (by simp)
  rw [hA0] at hA1
  have hlt := hb1.size
  simp only [World.alloc, Array.size_push] at hlt
  have HB1 := Hid.mk hB1
  have HA := Hid.mk hA1
  clear hB0 hA0 hb1 hB1 hA1 HCK
  have hRd : RdAt (w1.alloc (.cells #[.string b, .int .i64 0, .int .i64 0, .string ⟨#[]⟩, .int .i64 0, .bool false, .bool false, .bool false, .int .i64 0, .slice none 0 0] 67)) w1.heap.size b ⟨0, 0, []⟩ ⟨0, false, false, false, 0, .slice none 0 0⟩ := heap_alloc_new w1 _
  have hBz : Below w1.heap.size w1 (w1.alloc (.cells #[.string b, .int .i64 0, .int .i64 0, .string ⟨#[]⟩, .int .i64 0, .bool false, .bool false, .bool false, .int .i64 0, .slice none 0 0] 67)) := (Below.refl _ _).alloc (Nat.le_refl _) _
  have HRD := Hid.mk hRd
  have HBZ := Hid.mk hBz
  clear hRd hBz
  set_option maxRecDepth 100000 in
  go_wp2_with fail
  generalize w1.alloc (.cells #[.string b, .int .i64 0, .int .i64 0, .string ⟨#[]⟩, .int .i64 0, .bool false, .bool false, .bool false, .int .i64 0, .slice none 0 0] 67) = w10 at *
  have hg : w.heap.size < w1.heap.size := by omega
  have HB10 := Hid.mk (bl2 HB1.out HBZ.out)
  have HA10 := Hid.mk ((HBZ.out.block w.heap.size hg).trans HA.out)
  have hgS : 1 ≠ w1.heap.size := by have := HGS.out; omega
  have hgR : 0 ≠ w1.heap.size := by have := HGR.out; omega
  have hle1 := HB1.out.size
  have hgt10 := HRD.out.lt
  generalize w1.heap.size = g at *
  have HGSN := Hid.mk hgS
  have HGRN := Hid.mk hgR
  have HS10 := Hid.mk (HS.out.kept HB10.out)
  have HR10 := Hid.mk (HR.out.kept HB10.out)
  clear HB1 HBZ HA HS HR HGS HGR hgS hgR hlt
  refine (HA1.out g _ HRD.out).mono ?_
  rintro e w2 ⟨rfl, h2, t2⟩
  have H2 := Hid.mk h2
  have T2 := Hid.mk t2
  clear h2 t2 HRD HA1
  go_wp2_with fail
  refine (HA2.out g _ H2.out).mono ?_
  rintro e w3 ⟨rfl, h3, t3⟩
  have H3 := Hid.mk h3
  have T3 := Hid.mk (T2.out.trans t3)
  clear h3 t3 H2 T2 HA2
  go_wp2_with fail
  refine (HA3.out g _ H3.out (HS10.out.tch T3.out HGSN.out) HGSN.out).mono ?_
  rintro e w4 ⟨rfl, d, h4, hd4, t4⟩
  have H4 := Hid.mk h4
  have HD4 := Hid.mk hd4
  have T4 := Hid.mk (T3.out.trans t4)
  have k6 := h4.c6
  clear h4 t4 hd4 H3 T3 HA3
  have common : ∀ w5, RdAt w5 g b S5 ⟨A.id, A.lo, fa, A.re, D.sz, d⟩ → DataAt w5 g d D.dt → Tch [g] w10 w5 → True := fun _ _ _ _ => trivial
  clear common
  cases fa
  · rw [if_neg (by simp)] at q4
    rw [← q4] at HA5
    go_wp2_with fail
    refine (HA5.out g _ _ H4.out (HR10.out.tch T4.out HGRN.out)).mono ?_
    rintro e w5 ⟨rfl, h5, t5⟩
    have H5 := Hid.mk h5
    have HD5 := Hid.mk (HD4.out.tch t5)
    have T5 := Hid.mk (T4.out.trans t5)
    clear h5 t5 H4 T4 k6 HA4 HA5 HD4
    go_wp2_with fail
    refine (HA6.out g _ _ H5.out).mono ?_
    rintro e w6 ⟨rfl, h6, t6⟩
    have T6 := Hid.mk (T5.out.trans t6)
    have HD6 := Hid.mk (HD5.out.tch t6)
    have HA6' := Hid.mk ((T6.out.block w.heap.size (by omega) (by simp; omega)).trans HA10.out)
    have hz : w6.heap[w.heap.size]? = some (.cells #[.int .i64 0, .bool false, .bool false, .bool false, .int .i64 0, .slice none 0 0] 30 (0, 0)) := HA6'.out
    have HB6 := Hid.mk (Tch.below HB10.out T6.out (by simp; omega) (Nat.le_refl _))
    have b0 := cell_of_row w6 w.heap.size 0 _ _ _ hz
    have f0 := frozen_of_row w6 w.heap.size 0 _ _ hz
    simp at b0
    have b1 := cell_of_row w6 w.heap.size 1 _ _ _ hz
    have f1 := frozen_of_row w6 w.heap.size 1 _ _ hz
    simp at b1
    have b2 := cell_of_row w6 w.heap.size 2 _ _ _ hz
    have f2 := frozen_of_row w6 w.heap.size 2 _ _ hz
    simp at b2
    have b3 := cell_of_row w6 w.heap.size 3 _ _ _ hz
    have f3 := frozen_of_row w6 w.heap.size 3 _ _ hz
    simp at b3
    have b4 := cell_of_row w6 w.heap.size 4 _ _ _ hz
    have f4 := frozen_of_row w6 w.heap.size 4 _ _ hz
    simp at b4
    have b5 := cell_of_row w6 w.heap.size 5 _ _ _ hz
    have f5 := frozen_of_row w6 w.heap.size 5 _ _ hz
    simp at b5
    have m1 := h6.c1
    have m2 := h6.c2
    have m4 := h6.c4
    have m5 := h6.c5
    have m6 := h6.c6
    have m7 := h6.c7
    have m8 := h6.c8
    have m9 := h6.c9
    have H6 := Hid.mk h6
    clear h6 t6 T5 HD5 H5 HA6
    by_cases hE : E.fl = 0
    · rw [hE] at m2
      obtain ⟨a, len, cap, hdv, hby, hblk⟩ := HD6.out
      subst hdv
      have kc0 := cell_of_row w6 w.heap.size 0 _ _ _ hz
      have kz0 := frozen_of_row w6 w.heap.size 0 _ _ hz
      have ks0 := heap_setCell_same w6 w.heap.size 0 _ _ (.int .i64 (A.id : Int)) hz
      simp only [List.setIfInBounds_toArray, List.set_cons_zero] at ks0
      simp at kc0
      have kc1 := cell_of_row (w6.setCell ⟨w.heap.size, 0, none⟩ (.int .i64 (A.id : Int))) w.heap.size 1 _ _ _ ks0
      have kz1 := frozen_of_row (w6.setCell ⟨w.heap.size, 0, none⟩ (.int .i64 (A.id : Int))) w.heap.size 1 _ _ ks0
      have ks1 := heap_setCell_same (w6.setCell ⟨w.heap.size, 0, none⟩ (.int .i64 (A.id : Int))) w.heap.size 1 _ _ (.bool A.lo) ks0
      simp only [List.setIfInBounds_toArray, List.set_cons_zero, List.set_cons_succ] at ks1
      simp at kc1
      have kc2 := cell_of_row ((w6.setCell ⟨w.heap.size, 0, none⟩ (.int .i64 (A.id : Int))).setCell ⟨w.heap.size, 1, none⟩ (.bool A.lo)) w.heap.size 2 _ _ _ ks1
      have kz2 := frozen_of_row ((w6.setCell ⟨w.heap.size, 0, none⟩ (.int .i64 (A.id : Int))).setCell ⟨w.heap.size, 1, none⟩ (.bool A.lo)) w.heap.size 2 _ _ ks1
      have ks2 := heap_setCell_same ((w6.setCell ⟨w.heap.size, 0, none⟩ (.int .i64 (A.id : Int))).setCell ⟨w.heap.size, 1, none⟩ (.bool A.lo)) w.heap.size 2 _ _ (.bool false) ks1
      simp only [List.setIfInBounds_toArray, List.set_cons_zero, List.set_cons_succ] at ks2
      simp at kc2
      have kc3 := cell_of_row (((w6.setCell ⟨w.heap.size, 0, none⟩ (.int .i64 (A.id : Int))).setCell ⟨w.heap.size, 1, none⟩ (.bool A.lo)).setCell ⟨w.heap.size, 2, none⟩ (.bool false)) w.heap.size 3 _ _ _ ks2
      have kz3 := frozen_of_row (((w6.setCell ⟨w.heap.size, 0, none⟩ (.int .i64 (A.id : Int))).setCell ⟨w.heap.size, 1, none⟩ (.bool A.lo)).setCell ⟨w.heap.size, 2, none⟩ (.bool false)) w.heap.size 3 _ _ ks2
      have ks3 := heap_setCell_same (((w6.setCell ⟨w.heap.size, 0, none⟩ (.int .i64 (A.id : Int))).setCell ⟨w.heap.size, 1, none⟩ (.bool A.lo)).setCell ⟨w.heap.size, 2, none⟩ (.bool false)) w.heap.size 3 _ _ (.bool A.re) ks2
      simp only [List.setIfInBounds_toArray, List.set_cons_zero, List.set_cons_succ] at ks3
      simp at kc3
      have kc4 := cell_of_row ((((w6.setCell ⟨w.heap.size, 0, none⟩ (.int .i64 (A.id : Int))).setCell ⟨w.heap.size, 1, none⟩ (.bool A.lo)).setCell ⟨w.heap.size, 2, none⟩ (.bool false)).setCell ⟨w.heap.size, 3, none⟩ (.bool A.re)) w.heap.size 4 _ _ _ ks3
      have kz4 := frozen_of_row ((((w6.setCell ⟨w.heap.size, 0, none⟩ (.int .i64 (A.id : Int))).setCell ⟨w.heap.size, 1, none⟩ (.bool A.lo)).setCell ⟨w.heap.size, 2, none⟩ (.bool false)).setCell ⟨w.heap.size, 3, none⟩ (.bool A.re)) w.heap.size 4 _ _ ks3
      have ks4 := heap_setCell_same ((((w6.setCell ⟨w.heap.size, 0, none⟩ (.int .i64 (A.id : Int))).setCell ⟨w.heap.size, 1, none⟩ (.bool A.lo)).setCell ⟨w.heap.size, 2, none⟩ (.bool false)).setCell ⟨w.heap.size, 3, none⟩ (.bool A.re)) w.heap.size 4 _ _ (.int .i64 (D.sz : Int)) ks3
      simp only [List.setIfInBounds_toArray, List.set_cons_zero, List.set_cons_succ] at ks4
      simp at kc4
      have kc5 := cell_of_row (((((w6.setCell ⟨w.heap.size, 0, none⟩ (.int .i64 (A.id : Int))).setCell ⟨w.heap.size, 1, none⟩ (.bool A.lo)).setCell ⟨w.heap.size, 2, none⟩ (.bool false)).setCell ⟨w.heap.size, 3, none⟩ (.bool A.re)).setCell ⟨w.heap.size, 4, none⟩ (.int .i64 (D.sz : Int))) w.heap.size 5 _ _ _ ks4
      have kz5 := frozen_of_row (((((w6.setCell ⟨w.heap.size, 0, none⟩ (.int .i64 (A.id : Int))).setCell ⟨w.heap.size, 1, none⟩ (.bool A.lo)).setCell ⟨w.heap.size, 2, none⟩ (.bool false)).setCell ⟨w.heap.size, 3, none⟩ (.bool A.re)).setCell ⟨w.heap.size, 4, none⟩ (.int .i64 (D.sz : Int))) w.heap.size 5 _ _ ks4
      have ks5 := heap_setCell_same (((((w6.setCell ⟨w.heap.size, 0, none⟩ (.int .i64 (A.id : Int))).setCell ⟨w.heap.size, 1, none⟩ (.bool A.lo)).setCell ⟨w.heap.size, 2, none⟩ (.bool false)).setCell ⟨w.heap.size, 3, none⟩ (.bool A.re)).setCell ⟨w.heap.size, 4, none⟩ (.int .i64 (D.sz : Int))) w.heap.size 5 _ _ (.slice a len cap) ks4
      simp only [List.setIfInBounds_toArray, List.set_cons_zero, List.set_cons_succ] at ks5
      simp at kc5
      have hT : Tch [w.heap.size] w6 ((((((w6.setCell ⟨w.heap.size, 0, none⟩ (.int .i64 (A.id : Int))).setCell ⟨w.heap.size, 1, none⟩ (.bool A.lo)).setCell ⟨w.heap.size, 2, none⟩ (.bool false)).setCell ⟨w.heap.size, 3, none⟩ (.bool A.re)).setCell ⟨w.heap.size, 4, none⟩ (.int .i64 (D.sz : Int))).setCell ⟨w.heap.size, 5, none⟩ (.slice a len cap)) := ((((((((Tch.refl [w.heap.size] w6).setK (by simp) _ _).setK (by simp) _ _).setK (by simp) _ _).setK (by simp) _ _).setK (by simp) _ _).setK (by simp) _ _))
      have p1 : ((((((w6.setCell ⟨w.heap.size, 0, none⟩ (.int .i64 (A.id : Int))).setCell ⟨w.heap.size, 1, none⟩ (.bool A.lo)).setCell ⟨w.heap.size, 2, none⟩ (.bool false)).setCell ⟨w.heap.size, 3, none⟩ (.bool A.re)).setCell ⟨w.heap.size, 4, none⟩ (.int .i64 (D.sz : Int))).setCell ⟨w.heap.size, 5, none⟩ (.slice a len cap)).cell? ⟨g, 1, none⟩ = some (.int .i64 E.u) := (hT.rd H6.out (by simp; omega)).c1
      have HP := Hid.mk (Tch.below HB6.out hT.drew (by simp) (Nat.le_refl _))
      have HFIN := Hid.mk (row_drew ks5)
      have hb6d : IsBytes w6 a len cap D.dt := hby
      have HBY := Hid.mk (isBytes_drew (isBytes_tch hb6d hT (fun x hx => by have := hblk x hx; simp; omega)))
      clear hT hby hblk hb6d p1
      clear kc0 kz0 ks0 kc1 kz1 ks1 kc2 kz2 ks2 kc3 kz3 ks3 kc4 kz4 ks4 kc5 kz5 ks5 hz
      set_option maxRecDepth 100000 in
      go_wp2_with fail
      set_option maxRecDepth 100000 in
      go_region
      all_goals focus
        go_wp2_with fail
        refine bodyPost_ret (read_results _ _ w.heap.size _ _ _ rfl rfl rfl HFIN.out rfl) rfl ?_
        exact ⟨fun h => absurd hE h, fun _ => ⟨a, len, cap, rfl, HBY.out⟩, HP.out⟩
    · have hne : (E.fl != 0) = true := by simpa using hE
      have kc0 := cell_of_row w6 w.heap.size 0 _ _ _ hz
      have kz0 := frozen_of_row w6 w.heap.size 0 _ _ hz
      have ks0 := heap_setCell_same w6 w.heap.size 0 _ _ (.int .i64 0) hz
      simp only [List.setIfInBounds_toArray, List.set_cons_zero] at ks0
      simp at kc0
      have kc1 := cell_of_row (w6.setCell ⟨w.heap.size, 0, none⟩ (.int .i64 0)) w.heap.size 1 _ _ _ ks0
      have kz1 := frozen_of_row (w6.setCell ⟨w.heap.size, 0, none⟩ (.int .i64 0)) w.heap.size 1 _ _ ks0
      have ks1 := heap_setCell_same (w6.setCell ⟨w.heap.size, 0, none⟩ (.int .i64 0)) w.heap.size 1 _ _ (.bool false) ks0
      simp only [List.setIfInBounds_toArray, List.set_cons_zero, List.set_cons_succ] at ks1
      simp at kc1
      have kc2 := cell_of_row ((w6.setCell ⟨w.heap.size, 0, none⟩ (.int .i64 0)).setCell ⟨w.heap.size, 1, none⟩ (.bool false)) w.heap.size 2 _ _ _ ks1
      have kz2 := frozen_of_row ((w6.setCell ⟨w.heap.size, 0, none⟩ (.int .i64 0)).setCell ⟨w.heap.size, 1, none⟩ (.bool false)) w.heap.size 2 _ _ ks1
      have ks2 := heap_setCell_same ((w6.setCell ⟨w.heap.size, 0, none⟩ (.int .i64 0)).setCell ⟨w.heap.size, 1, none⟩ (.bool false)) w.heap.size 2 _ _ (.bool false) ks1
      simp only [List.setIfInBounds_toArray, List.set_cons_zero, List.set_cons_succ] at ks2
      simp at kc2
      have kc3 := cell_of_row (((w6.setCell ⟨w.heap.size, 0, none⟩ (.int .i64 0)).setCell ⟨w.heap.size, 1, none⟩ (.bool false)).setCell ⟨w.heap.size, 2, none⟩ (.bool false)) w.heap.size 3 _ _ _ ks2
      have kz3 := frozen_of_row (((w6.setCell ⟨w.heap.size, 0, none⟩ (.int .i64 0)).setCell ⟨w.heap.size, 1, none⟩ (.bool false)).setCell ⟨w.heap.size, 2, none⟩ (.bool false)) w.heap.size 3 _ _ ks2
      have ks3 := heap_setCell_same (((w6.setCell ⟨w.heap.size, 0, none⟩ (.int .i64 0)).setCell ⟨w.heap.size, 1, none⟩ (.bool false)).setCell ⟨w.heap.size, 2, none⟩ (.bool false)) w.heap.size 3 _ _ (.bool false) ks2
      simp only [List.setIfInBounds_toArray, List.set_cons_zero, List.set_cons_succ] at ks3
      simp at kc3
      have kc4 := cell_of_row ((((w6.setCell ⟨w.heap.size, 0, none⟩ (.int .i64 0)).setCell ⟨w.heap.size, 1, none⟩ (.bool false)).setCell ⟨w.heap.size, 2, none⟩ (.bool false)).setCell ⟨w.heap.size, 3, none⟩ (.bool false)) w.heap.size 4 _ _ _ ks3
      have kz4 := frozen_of_row ((((w6.setCell ⟨w.heap.size, 0, none⟩ (.int .i64 0)).setCell ⟨w.heap.size, 1, none⟩ (.bool false)).setCell ⟨w.heap.size, 2, none⟩ (.bool false)).setCell ⟨w.heap.size, 3, none⟩ (.bool false)) w.heap.size 4 _ _ ks3
      have ks4 := heap_setCell_same ((((w6.setCell ⟨w.heap.size, 0, none⟩ (.int .i64 0)).setCell ⟨w.heap.size, 1, none⟩ (.bool false)).setCell ⟨w.heap.size, 2, none⟩ (.bool false)).setCell ⟨w.heap.size, 3, none⟩ (.bool false)) w.heap.size 4 _ _ (.int .i64 0) ks3
      simp only [List.setIfInBounds_toArray, List.set_cons_zero, List.set_cons_succ] at ks4
      simp at kc4
      have kc5 := cell_of_row (((((w6.setCell ⟨w.heap.size, 0, none⟩ (.int .i64 0)).setCell ⟨w.heap.size, 1, none⟩ (.bool false)).setCell ⟨w.heap.size, 2, none⟩ (.bool false)).setCell ⟨w.heap.size, 3, none⟩ (.bool false)).setCell ⟨w.heap.size, 4, none⟩ (.int .i64 0)) w.heap.size 5 _ _ _ ks4
      have kz5 := frozen_of_row (((((w6.setCell ⟨w.heap.size, 0, none⟩ (.int .i64 0)).setCell ⟨w.heap.size, 1, none⟩ (.bool false)).setCell ⟨w.heap.size, 2, none⟩ (.bool false)).setCell ⟨w.heap.size, 3, none⟩ (.bool false)).setCell ⟨w.heap.size, 4, none⟩ (.int .i64 0)) w.heap.size 5 _ _ ks4
      have ks5 := heap_setCell_same (((((w6.setCell ⟨w.heap.size, 0, none⟩ (.int .i64 0)).setCell ⟨w.heap.size, 1, none⟩ (.bool false)).setCell ⟨w.heap.size, 2, none⟩ (.bool false)).setCell ⟨w.heap.size, 3, none⟩ (.bool false)).setCell ⟨w.heap.size, 4, none⟩ (.int .i64 0)) w.heap.size 5 _ _ (.slice none 0 0) ks4
      simp only [List.setIfInBounds_toArray, List.set_cons_zero, List.set_cons_succ] at ks5
      simp at kc5
      have hT : Tch [w.heap.size] w6 ((((((w6.setCell ⟨w.heap.size, 0, none⟩ (.int .i64 0)).setCell ⟨w.heap.size, 1, none⟩ (.bool false)).setCell ⟨w.heap.size, 2, none⟩ (.bool false)).setCell ⟨w.heap.size, 3, none⟩ (.bool false)).setCell ⟨w.heap.size, 4, none⟩ (.int .i64 0)).setCell ⟨w.heap.size, 5, none⟩ (.slice none 0 0)) := ((((((((Tch.refl [w.heap.size] w6).setK (by simp) _ _).setK (by simp) _ _).setK (by simp) _ _).setK (by simp) _ _).setK (by simp) _ _).setK (by simp) _ _))
      have p2 : ((((((w6.setCell ⟨w.heap.size, 0, none⟩ (.int .i64 0)).setCell ⟨w.heap.size, 1, none⟩ (.bool false)).setCell ⟨w.heap.size, 2, none⟩ (.bool false)).setCell ⟨w.heap.size, 3, none⟩ (.bool false)).setCell ⟨w.heap.size, 4, none⟩ (.int .i64 0)).setCell ⟨w.heap.size, 5, none⟩ (.slice none 0 0)).cell? ⟨g, 2, none⟩ = some (.int .i64 E.fl) := (hT.rd H6.out (by simp; omega)).c2
      have HP := Hid.mk (Tch.below HB6.out hT.drew (by simp) (Nat.le_refl _))
      have HFIN := Hid.mk (row_drew ks5)
      clear hT p2
      clear kc0 kz0 ks0 kc1 kz1 ks1 kc2 kz2 ks2 kc3 kz3 ks3 kc4 kz4 ks4 kc5 kz5 ks5 hz
      set_option maxRecDepth 100000 in
      go_wp2_with fail
      set_option maxRecDepth 100000 in
      go_region
      all_goals focus
        go_wp2_with fail
        refine bodyPost_ret (read_results _ _ w.heap.size _ _ _ rfl rfl rfl HFIN.out rfl) rfl ?_
        exact ⟨fun _ => rfl, fun h => absurd h hE, HP.out⟩
  · rw [if_pos rfl] at q4
    rw [← q4] at HA4
    go_wp2_with fail
    refine (HA4.out g _ _ H4.out (HR10.out.tch T4.out HGRN.out) HGRN.out HD4.out).mono ?_
    rintro e w5 ⟨rfl, h5, t5⟩
    have H5 := Hid.mk h5
    have HD5 := Hid.mk (HD4.out.tch t5)
    have T5 := Hid.mk (T4.out.trans t5)
    clear h5 t5 H4 T4 k6 HA4 HA5 HD4
    go_wp2_with fail
    refine (HA6.out g _ _ H5.out).mono ?_
    rintro e w6 ⟨rfl, h6, t6⟩
    have T6 := Hid.mk (T5.out.trans t6)
    have HD6 := Hid.mk (HD5.out.tch t6)
    have HA6' := Hid.mk ((T6.out.block w.heap.size (by omega) (by simp; omega)).trans HA10.out)
    have hz : w6.heap[w.heap.size]? = some (.cells #[.int .i64 0, .bool false, .bool false, .bool false, .int .i64 0, .slice none 0 0] 30 (0, 0)) := HA6'.out
    have HB6 := Hid.mk (Tch.below HB10.out T6.out (by simp; omega) (Nat.le_refl _))
    have b0 := cell_of_row w6 w.heap.size 0 _ _ _ hz
    have f0 := frozen_of_row w6 w.heap.size 0 _ _ hz
    simp at b0
    have b1 := cell_of_row w6 w.heap.size 1 _ _ _ hz
    have f1 := frozen_of_row w6 w.heap.size 1 _ _ hz
    simp at b1
    have b2 := cell_of_row w6 w.heap.size 2 _ _ _ hz
    have f2 := frozen_of_row w6 w.heap.size 2 _ _ hz
    simp at b2
    have b3 := cell_of_row w6 w.heap.size 3 _ _ _ hz
    have f3 := frozen_of_row w6 w.heap.size 3 _ _ hz
    simp at b3
    have b4 := cell_of_row w6 w.heap.size 4 _ _ _ hz
    have f4 := frozen_of_row w6 w.heap.size 4 _ _ hz
    simp at b4
    have b5 := cell_of_row w6 w.heap.size 5 _ _ _ hz
    have f5 := frozen_of_row w6 w.heap.size 5 _ _ hz
    simp at b5
    have m1 := h6.c1
    have m2 := h6.c2
    have m4 := h6.c4
    have m5 := h6.c5
    have m6 := h6.c6
    have m7 := h6.c7
    have m8 := h6.c8
    have m9 := h6.c9
    have H6 := Hid.mk h6
    clear h6 t6 T5 HD5 H5 HA6
    by_cases hE : E.fl = 0
    · rw [hE] at m2
      obtain ⟨a, len, cap, hdv, hby, hblk⟩ := HD6.out
      subst hdv
      have kc0 := cell_of_row w6 w.heap.size 0 _ _ _ hz
      have kz0 := frozen_of_row w6 w.heap.size 0 _ _ hz
      have ks0 := heap_setCell_same w6 w.heap.size 0 _ _ (.int .i64 (A.id : Int)) hz
      simp only [List.setIfInBounds_toArray, List.set_cons_zero] at ks0
      simp at kc0
      have kc1 := cell_of_row (w6.setCell ⟨w.heap.size, 0, none⟩ (.int .i64 (A.id : Int))) w.heap.size 1 _ _ _ ks0
      have kz1 := frozen_of_row (w6.setCell ⟨w.heap.size, 0, none⟩ (.int .i64 (A.id : Int))) w.heap.size 1 _ _ ks0
      have ks1 := heap_setCell_same (w6.setCell ⟨w.heap.size, 0, none⟩ (.int .i64 (A.id : Int))) w.heap.size 1 _ _ (.bool A.lo) ks0
      simp only [List.setIfInBounds_toArray, List.set_cons_zero, List.set_cons_succ] at ks1
      simp at kc1
      have kc2 := cell_of_row ((w6.setCell ⟨w.heap.size, 0, none⟩ (.int .i64 (A.id : Int))).setCell ⟨w.heap.size, 1, none⟩ (.bool A.lo)) w.heap.size 2 _ _ _ ks1
      have kz2 := frozen_of_row ((w6.setCell ⟨w.heap.size, 0, none⟩ (.int .i64 (A.id : Int))).setCell ⟨w.heap.size, 1, none⟩ (.bool A.lo)) w.heap.size 2 _ _ ks1
      have ks2 := heap_setCell_same ((w6.setCell ⟨w.heap.size, 0, none⟩ (.int .i64 (A.id : Int))).setCell ⟨w.heap.size, 1, none⟩ (.bool A.lo)) w.heap.size 2 _ _ (.bool true) ks1
      simp only [List.setIfInBounds_toArray, List.set_cons_zero, List.set_cons_succ] at ks2
      simp at kc2
      have kc3 := cell_of_row (((w6.setCell ⟨w.heap.size, 0, none⟩ (.int .i64 (A.id : Int))).setCell ⟨w.heap.size, 1, none⟩ (.bool A.lo)).setCell ⟨w.heap.size, 2, none⟩ (.bool true)) w.heap.size 3 _ _ _ ks2
      have kz3 := frozen_of_row (((w6.setCell ⟨w.heap.size, 0, none⟩ (.int .i64 (A.id : Int))).setCell ⟨w.heap.size, 1, none⟩ (.bool A.lo)).setCell ⟨w.heap.size, 2, none⟩ (.bool true)) w.heap.size 3 _ _ ks2
      have ks3 := heap_setCell_same (((w6.setCell ⟨w.heap.size, 0, none⟩ (.int .i64 (A.id : Int))).setCell ⟨w.heap.size, 1, none⟩ (.bool A.lo)).setCell ⟨w.heap.size, 2, none⟩ (.bool true)) w.heap.size 3 _ _ (.bool A.re) ks2
      simp only [List.setIfInBounds_toArray, List.set_cons_zero, List.set_cons_succ] at ks3
      simp at kc3
      have kc4 := cell_of_row ((((w6.setCell ⟨w.heap.size, 0, none⟩ (.int .i64 (A.id : Int))).setCell ⟨w.heap.size, 1, none⟩ (.bool A.lo)).setCell ⟨w.heap.size, 2, none⟩ (.bool true)).setCell ⟨w.heap.size, 3, none⟩ (.bool A.re)) w.heap.size 4 _ _ _ ks3
      have kz4 := frozen_of_row ((((w6.setCell ⟨w.heap.size, 0, none⟩ (.int .i64 (A.id : Int))).setCell ⟨w.heap.size, 1, none⟩ (.bool A.lo)).setCell ⟨w.heap.size, 2, none⟩ (.bool true)).setCell ⟨w.heap.size, 3, none⟩ (.bool A.re)) w.heap.size 4 _ _ ks3
      have ks4 := heap_setCell_same ((((w6.setCell ⟨w.heap.size, 0, none⟩ (.int .i64 (A.id : Int))).setCell ⟨w.heap.size, 1, none⟩ (.bool A.lo)).setCell ⟨w.heap.size, 2, none⟩ (.bool true)).setCell ⟨w.heap.size, 3, none⟩ (.bool A.re)) w.heap.size 4 _ _ (.int .i64 (D.sz : Int)) ks3
      simp only [List.setIfInBounds_toArray, List.set_cons_zero, List.set_cons_succ] at ks4
      simp at kc4
      have kc5 := cell_of_row (((((w6.setCell ⟨w.heap.size, 0, none⟩ (.int .i64 (A.id : Int))).setCell ⟨w.heap.size, 1, none⟩ (.bool A.lo)).setCell ⟨w.heap.size, 2, none⟩ (.bool true)).setCell ⟨w.heap.size, 3, none⟩ (.bool A.re)).setCell ⟨w.heap.size, 4, none⟩ (.int .i64 (D.sz : Int))) w.heap.size 5 _ _ _ ks4
      have kz5 := frozen_of_row (((((w6.setCell ⟨w.heap.size, 0, none⟩ (.int .i64 (A.id : Int))).setCell ⟨w.heap.size, 1, none⟩ (.bool A.lo)).setCell ⟨w.heap.size, 2, none⟩ (.bool true)).setCell ⟨w.heap.size, 3, none⟩ (.bool A.re)).setCell ⟨w.heap.size, 4, none⟩ (.int .i64 (D.sz : Int))) w.heap.size 5 _ _ ks4
      have ks5 := heap_setCell_same (((((w6.setCell ⟨w.heap.size, 0, none⟩ (.int .i64 (A.id : Int))).setCell ⟨w.heap.size, 1, none⟩ (.bool A.lo)).setCell ⟨w.heap.size, 2, none⟩ (.bool true)).setCell ⟨w.heap.size, 3, none⟩ (.bool A.re)).setCell ⟨w.heap.size, 4, none⟩ (.int .i64 (D.sz : Int))) w.heap.size 5 _ _ (.slice a len cap) ks4
      simp only [List.setIfInBounds_toArray, List.set_cons_zero, List.set_cons_succ] at ks5
      simp at kc5
      have hT : Tch [w.heap.size] w6 ((((((w6.setCell ⟨w.heap.size, 0, none⟩ (.int .i64 (A.id : Int))).setCell ⟨w.heap.size, 1, none⟩ (.bool A.lo)).setCell ⟨w.heap.size, 2, none⟩ (.bool true)).setCell ⟨w.heap.size, 3, none⟩ (.bool A.re)).setCell ⟨w.heap.size, 4, none⟩ (.int .i64 (D.sz : Int))).setCell ⟨w.heap.size, 5, none⟩ (.slice a len cap)) := ((((((((Tch.refl [w.heap.size] w6).setK (by simp) _ _).setK (by simp) _ _).setK (by simp) _ _).setK (by simp) _ _).setK (by simp) _ _).setK (by simp) _ _))
      have p1 : ((((((w6.setCell ⟨w.heap.size, 0, none⟩ (.int .i64 (A.id : Int))).setCell ⟨w.heap.size, 1, none⟩ (.bool A.lo)).setCell ⟨w.heap.size, 2, none⟩ (.bool true)).setCell ⟨w.heap.size, 3, none⟩ (.bool A.re)).setCell ⟨w.heap.size, 4, none⟩ (.int .i64 (D.sz : Int))).setCell ⟨w.heap.size, 5, none⟩ (.slice a len cap)).cell? ⟨g, 1, none⟩ = some (.int .i64 E.u) := (hT.rd H6.out (by simp; omega)).c1
      have HP := Hid.mk (Tch.below HB6.out hT.drew (by simp) (Nat.le_refl _))
      have HFIN := Hid.mk (row_drew ks5)
      have hb6d : IsBytes w6 a len cap D.dt := hby
      have HBY := Hid.mk (isBytes_drew (isBytes_tch hb6d hT (fun x hx => by have := hblk x hx; simp; omega)))
      clear hT hby hblk hb6d p1
      clear kc0 kz0 ks0 kc1 kz1 ks1 kc2 kz2 ks2 kc3 kz3 ks3 kc4 kz4 ks4 kc5 kz5 ks5 hz
      set_option maxRecDepth 100000 in
      go_wp2_with fail
      set_option maxRecDepth 100000 in
      go_region
      all_goals focus
        go_wp2_with fail
        refine bodyPost_ret (read_results _ _ w.heap.size _ _ _ rfl rfl rfl HFIN.out rfl) rfl ?_
        exact ⟨fun h => absurd hE h, fun _ => ⟨a, len, cap, rfl, HBY.out⟩, HP.out⟩
    · have hne : (E.fl != 0) = true := by simpa using hE
      have kc0 := cell_of_row w6 w.heap.size 0 _ _ _ hz
      have kz0 := frozen_of_row w6 w.heap.size 0 _ _ hz
      have ks0 := heap_setCell_same w6 w.heap.size 0 _ _ (.int .i64 0) hz
      simp only [List.setIfInBounds_toArray, List.set_cons_zero] at ks0
      simp at kc0
      have kc1 := cell_of_row (w6.setCell ⟨w.heap.size, 0, none⟩ (.int .i64 0)) w.heap.size 1 _ _ _ ks0
      have kz1 := frozen_of_row (w6.setCell ⟨w.heap.size, 0, none⟩ (.int .i64 0)) w.heap.size 1 _ _ ks0
      have ks1 := heap_setCell_same (w6.setCell ⟨w.heap.size, 0, none⟩ (.int .i64 0)) w.heap.size 1 _ _ (.bool false) ks0
      simp only [List.setIfInBounds_toArray, List.set_cons_zero, List.set_cons_succ] at ks1
      simp at kc1
      have kc2 := cell_of_row ((w6.setCell ⟨w.heap.size, 0, none⟩ (.int .i64 0)).setCell ⟨w.heap.size, 1, none⟩ (.bool false)) w.heap.size 2 _ _ _ ks1
      have kz2 := frozen_of_row ((w6.setCell ⟨w.heap.size, 0, none⟩ (.int .i64 0)).setCell ⟨w.heap.size, 1, none⟩ (.bool false)) w.heap.size 2 _ _ ks1
      have ks2 := heap_setCell_same ((w6.setCell ⟨w.heap.size, 0, none⟩ (.int .i64 0)).setCell ⟨w.heap.size, 1, none⟩ (.bool false)) w.heap.size 2 _ _ (.bool false) ks1
      simp only [List.setIfInBounds_toArray, List.set_cons_zero, List.set_cons_succ] at ks2
      simp at kc2
      have kc3 := cell_of_row (((w6.setCell ⟨w.heap.size, 0, none⟩ (.int .i64 0)).setCell ⟨w.heap.size, 1, none⟩ (.bool false)).setCell ⟨w.heap.size, 2, none⟩ (.bool false)) w.heap.size 3 _ _ _ ks2
      have kz3 := frozen_of_row (((w6.setCell ⟨w.heap.size, 0, none⟩ (.int .i64 0)).setCell ⟨w.heap.size, 1, none⟩ (.bool false)).setCell ⟨w.heap.size, 2, none⟩ (.bool false)) w.heap.size 3 _ _ ks2
      have ks3 := heap_setCell_same (((w6.setCell ⟨w.heap.size, 0, none⟩ (.int .i64 0)).setCell ⟨w.heap.size, 1, none⟩ (.bool false)).setCell ⟨w.heap.size, 2, none⟩ (.bool false)) w.heap.size 3 _ _ (.bool false) ks2
      simp only [List.setIfInBounds_toArray, List.set_cons_zero, List.set_cons_succ] at ks3
      simp at kc3
      have kc4 := cell_of_row ((((w6.setCell ⟨w.heap.size, 0, none⟩ (.int .i64 0)).setCell ⟨w.heap.size, 1, none⟩ (.bool false)).setCell ⟨w.heap.size, 2, none⟩ (.bool false)).setCell ⟨w.heap.size, 3, none⟩ (.bool false)) w.heap.size 4 _ _ _ ks3
      have kz4 := frozen_of_row ((((w6.setCell ⟨w.heap.size, 0, none⟩ (.int .i64 0)).setCell ⟨w.heap.size, 1, none⟩ (.bool false)).setCell ⟨w.heap.size, 2, none⟩ (.bool false)).setCell ⟨w.heap.size, 3, none⟩ (.bool false)) w.heap.size 4 _ _ ks3
      have ks4 := heap_setCell_same ((((w6.setCell ⟨w.heap.size, 0, none⟩ (.int .i64 0)).setCell ⟨w.heap.size, 1, none⟩ (.bool false)).setCell ⟨w.heap.size, 2, none⟩ (.bool false)).setCell ⟨w.heap.size, 3, none⟩ (.bool false)) w.heap.size 4 _ _ (.int .i64 0) ks3
      simp only [List.setIfInBounds_toArray, List.set_cons_zero, List.set_cons_succ] at ks4
      simp at kc4
      have kc5 := cell_of_row (((((w6.setCell ⟨w.heap.size, 0, none⟩ (.int .i64 0)).setCell ⟨w.heap.size, 1, none⟩ (.bool false)).setCell ⟨w.heap.size, 2, none⟩ (.bool false)).setCell ⟨w.heap.size, 3, none⟩ (.bool false)).setCell ⟨w.heap.size, 4, none⟩ (.int .i64 0)) w.heap.size 5 _ _ _ ks4
      have kz5 := frozen_of_row (((((w6.setCell ⟨w.heap.size, 0, none⟩ (.int .i64 0)).setCell ⟨w.heap.size, 1, none⟩ (.bool false)).setCell ⟨w.heap.size, 2, none⟩ (.bool false)).setCell ⟨w.heap.size, 3, none⟩ (.bool false)).setCell ⟨w.heap.size, 4, none⟩ (.int .i64 0)) w.heap.size 5 _ _ ks4
      have ks5 := heap_setCell_same (((((w6.setCell ⟨w.heap.size, 0, none⟩ (.int .i64 0)).setCell ⟨w.heap.size, 1, none⟩ (.bool false)).setCell ⟨w.heap.size, 2, none⟩ (.bool false)).setCell ⟨w.heap.size, 3, none⟩ (.bool false)).setCell ⟨w.heap.size, 4, none⟩ (.int .i64 0)) w.heap.size 5 _ _ (.slice none 0 0) ks4
      simp only [List.setIfInBounds_toArray, List.set_cons_zero, List.set_cons_succ] at ks5
      simp at kc5
      have hT : Tch [w.heap.size] w6 ((((((w6.setCell ⟨w.heap.size, 0, none⟩ (.int .i64 0)).setCell ⟨w.heap.size, 1, none⟩ (.bool false)).setCell ⟨w.heap.size, 2, none⟩ (.bool false)).setCell ⟨w.heap.size, 3, none⟩ (.bool false)).setCell ⟨w.heap.size, 4, none⟩ (.int .i64 0)).setCell ⟨w.heap.size, 5, none⟩ (.slice none 0 0)) := ((((((((Tch.refl [w.heap.size] w6).setK (by simp) _ _).setK (by simp) _ _).setK (by simp) _ _).setK (by simp) _ _).setK (by simp) _ _).setK (by simp) _ _))
      have p2 : ((((((w6.setCell ⟨w.heap.size, 0, none⟩ (.int .i64 0)).setCell ⟨w.heap.size, 1, none⟩ (.bool false)).setCell ⟨w.heap.size, 2, none⟩ (.bool false)).setCell ⟨w.heap.size, 3, none⟩ (.bool false)).setCell ⟨w.heap.size, 4, none⟩ (.int .i64 0)).setCell ⟨w.heap.size, 5, none⟩ (.slice none 0 0)).cell? ⟨g, 2, none⟩ = some (.int .i64 E.fl) := (hT.rd H6.out (by simp; omega)).c2
      have HP := Hid.mk (Tch.below HB6.out hT.drew (by simp) (Nat.le_refl _))
      have HFIN := Hid.mk (row_drew ks5)
      clear hT p2
      clear kc0 kz0 ks0 kc1 kz1 ks1 kc2 kz2 ks2 kc3 kz3 ks3 kc4 kz4 ks4 kc5 kz5 ks5 hz
      set_option maxRecDepth 100000 in
      go_wp2_with fail
      set_option maxRecDepth 100000 in
      go_region
      all_goals focus
        go_wp2_with fail
        refine bodyPost_ret (read_results _ _ w.heap.size _ _ _ rfl rfl rfl HFIN.out rfl) rfl ?_
        exact ⟨fun _ => rfl, fun h => absurd h hE, HP.out⟩
end Bw
end Go.Proofs.YtfomempleaceiaaDoor
