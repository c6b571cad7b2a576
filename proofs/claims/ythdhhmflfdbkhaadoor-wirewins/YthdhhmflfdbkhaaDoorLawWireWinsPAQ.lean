/- Joined out of our texts: WwinsWalk. -/
import Derived.Test.YthdhhmflfdbkhaaDoorLawWireWinsPAP
import Derived.BigQuiet
import Derived.Lib.QuietBelow
/- The law WireWins: the bus is the winner's bits; where one's name comes first, it wins; whoever is read there is the winner. -/
namespace Go.Proofs.YthdhhmflfdbkhaaDoor
open Go.ChangeShapes Go.WideShapes Go.ChangeAt Go.RowKit
namespace Bw
open Bm Cm Go.Sort
theorem isBytes_regr {w : World} {a : Option Addr} {len cap : Nat} {l : List UInt8} (h : IsBytes w a len cap l) (d : Nat) (os : Array Obj) : IsBytes (grow (redrawn w d) os) a len cap l := isBytes_below h (below_regrown w d os)
theorem frAt_regr {w : World} {g : Nat} {id : Int} {lo fa re : Bool} {sz : Int} {a : Option Addr} {len cap : Nat} (h : FrAt w g id lo fa re sz a len cap) (d : Nat) (os : Array Obj) : FrAt (grow (redrawn w d) os) g id lo fa re sz a len cap := h.kept (below_regrown w d os)
theorem cell_regr {w : World} {p : Addr} {v : Value} (h : w.cell? p = some v) (d : Nat) (os : Array Obj) : (grow (redrawn w d) os).cell? p = some v := cell_kept (below_regrown w d os) h
set_option maxHeartbeats 8000000 in
theorem wwins_bad (a : Option Addr) (n cap : Nat) (l : List FrV) (w : World) (hS : SizesAt w) (hR : RulesAt w) (hF : IsFrames w a n cap l) (hE : sendE l ≠ 0) :
    Calls Tryd.prog 4 #[.slice a n cap] w fun e w' => e = .returned (.bool true) ∧ Below w.heap.size w w' := by
  have hf : firstE l ≠ 0 := fun h => hE (first_send h).1
  have HA1 := Hid.mk ((send_any a n cap l w hS hR hF).mono (fun _ _ h => And.intro (h.1 hE) h.2.2))
  have HA2 := Hid.mk (fun W h1 h2 => first_any a n cap l W h1 h2)
  rw [if_neg hf] at HA2
  have HA3 := Hid.mk (fun W h1 h2 => wired_any W h1 h2)
  have HF := Hid.mk hF
  have HS := Hid.mk hS
  have HR := Hid.mk hR
  have q1 : (sendE l != 0) = true := by simpa using hE
  have q2 : (firstE l == 0) = false := by simpa using hf
  generalize sendE l = se at *
  generalize firstE l = fe at *
  clear hS hR hF hE hf
  go_enter Tryd.func4, Tryd.ntmps4
  go_wp2_with fail
  refine HA1.out.mono ?_
  rintro e w1 ⟨rfl, hb1⟩
  have HB1 := Hid.mk hb1
  clear hb1
  go_wp2_with fail
  refine (HA2.out _ (HS.out.kept HB1.out) (HF.out.kept HB1.out)).mono ?_
  rintro e w2 ⟨rfl, hb2⟩
  have HB2 := Hid.mk (bl2 HB1.out hb2)
  clear hb2 HB1
  go_wp2_with fail
  refine (HA3.out _ (HS.out.kept HB2.out) (HR.out.kept HB2.out)).mono ?_
  rintro e w3 ⟨rfl, hb3⟩
  have HB3 := Hid.mk (bl2 HB2.out hb3)
  clear hb3 HB2
  go_wp2_with fail
  go_ret
  exact ⟨rfl, HB3.out⟩
set_option maxHeartbeats 16000000 in
set_option maxRecDepth 100000 in
theorem wwins_first (a : Option Addr) (n cap : Nat) (l : List FrV) (w : World) (hS : SizesAt w) (hR : RulesAt w) (hF : IsFrames w a n cap l) (hE : sendE l = 0) (hf : firstE l = 0) :
    Calls Tryd.prog 4 #[.slice a n cap] w fun e w' => e = .returned (.bool true) ∧ Below w.heap.size w w' := by
  obtain ⟨i, hil, hidx, hbits, hfr⟩ := send_who hE
  have hl := hF.len
  have hk := (first_send hf).2
  have a1 := (send_any a n cap l w hS hR hF).mono (fun _ _ h => And.intro (h.2.1 hE) h.2.2)
  have a2 := fun W h1 h2 => first_any a n cap l W h1 h2
  rw [if_pos hf, ← hk, hidx, hf] at a2
  rw [hidx, ← hbits] at a1
  have hin : i < n := by omega
  cases a with
  | none => exact absurd (hF.none rfl) (by omega)
  | some x =>
    have cc := fun (j : Nat) (hj : j < 6) => hF.cell x rfl i hil j hj
    have hby := hF.bytes i hil
    have HF := Hid.mk hF
    have HS := Hid.mk hS
    have HR := Hid.mk hR
    generalize l[i] = v at *
    obtain ⟨f, fa, fl, fc⟩ := v
    have c0 := cc 0 (by omega)
    have c1 := cc 1 (by omega)
    have c2 := cc 2 (by omega)
    have c3 := cc 3 (by omega)
    have c4 := cc 4 (by omega)
    have c5 := cc 5 (by omega)
    rw [add_next] at c1 c2 c3 c4 c5
    rw [Nat.add_zero] at c0
    simp only [FrV.cells, List.getElem_cons_zero, List.getElem_cons_succ, Nat.reduceAdd] at c0 c1 c2 c3 c4 c5
    simp only at hby hfr a1
    have C0 := Hid.mk c0
    have C1 := Hid.mk c1
    have C2 := Hid.mk c2
    have C3 := Hid.mk c3
    have C4 := Hid.mk c4
    have C5 := Hid.mk c5
    have HY := Hid.mk hby
    have a4 := fun W h1 h2 hy => frBits_ok f fa fl fc W h1 h2 hy hfr
    have a5 := fun W h1 h2 => readBack_any f onesL [] ⟨(bitsL f).toArray⟩ W h1 h2 hfr (.inl rfl) (by simp [bitsL_pre]) rfl (by
      have h1 := bitsL_len f
      have h2 := preL_len f hfr
      show (bitsL f).toArray.size ≤ 1000
      simp; omega)
    have a6 := fun W ga gl gc h1 h2 => same_any f f ga fa gl gc fl fc W h1 h2
    have hdec : decide (f = f) = true := by simp
    rw [hdec] at a6
    have hsz : (preL f).length + 10 = (ByteArray.mk (bitsL f).toArray).size := by rw [← bitsL_len]; simp [ByteArray.size]
    rw [hsz] at a5
    generalize ByteArray.mk (bitsL f).toArray = BT at *
    have hin' : (i : Int) < (n : Int) := by omega
    have e1 : (BT.toList == BT.toList) = true := by simp
    have HA1 := Hid.mk a1
    have HA2 := Hid.mk a2
    have HA3 := Hid.mk (fun W h1 h2 => wired_any W h1 h2)
    have HA4 := Hid.mk a4
    have HA5 := Hid.mk a5
    have HA6 := Hid.mk a6
    unfold frameV at HA4 HA5 HA6
    clear hS hR hF hE hf cc c0 c1 c2 c3 c4 c5 hby a1 a2 a4 a5 a6 hdec hsz hfr hidx hbits hl
    clear hk
    go_enter Tryd.func4, Tryd.ntmps4
    go_wp2_with fail
    refine HA1.out.mono ?_
    rintro e w1 ⟨⟨gl, rfl, -⟩, hb1⟩
    have HB1 := Hid.mk hb1
    clear hb1
    go_wp2_with fail
    refine (HA2.out _ (HS.out.kept HB1.out) (HF.out.kept HB1.out)).mono ?_
    rintro e w2 ⟨rfl, hb2⟩
    have HB2 := Hid.mk (bl2 HB1.out hb2)
    clear hb2 HB1
    go_wp2_with fail
    refine (HA3.out _ (HS.out.kept HB2.out) (HR.out.kept HB2.out)).mono ?_
    rintro e w3 ⟨rfl, hb3⟩
    have HB3 := Hid.mk (bl2 HB2.out hb3)
    clear hb3 HB2
    have d0 := cell_kept HB3.out C0.out
    have d1 := cell_kept HB3.out C1.out
    have d2 := cell_kept HB3.out C2.out
    have d3 := cell_kept HB3.out C3.out
    have d4 := cell_kept HB3.out C4.out
    have d5 := cell_kept HB3.out C5.out
    go_wp2_with fail
    refine (HA4.out _ (HS.out.kept HB3.out) (HR.out.kept HB3.out) (isBytes_below HY.out HB3.out)).mono ?_
    rintro e w4 ⟨rfl, hb4⟩
    have HB4 := Hid.mk (bl2 HB3.out hb4)
    clear hb4 HB3 d0 d1 d2 d3 d4 d5
    go_wp2_with fail
    refine (HA5.out _ (HS.out.kept HB4.out) (HR.out.kept HB4.out)).mono ?_
    rintro e w5 ⟨ga, gn, gc, rfl, hyg, hb5⟩
    have HB5 := Hid.mk (bl2 HB4.out hb5)
    have hbx : Below w5.heap.size w5 (w5.alloc (.cells #[.int .i64 f.id, .bool f.lo, .bool f.fa, .bool f.re, .int .i64 f.sz, .slice ga gn gc] 30)) := (Below.refl _ _).alloc (Nat.le_refl _) _
    have HK6 := Hid.mk (FrAt.box w5 f.id f.lo f.fa f.re f.sz ga gn gc)
    unfold frameC at HK6
    have HYG := Hid.mk (isBytes_below hyg hbx)
    have HB6 := Hid.mk (bl2 HB5.out hbx)
    have HYF := Hid.mk (isBytes_below HY.out HB6.out)
    clear hb5 hyg hbx HB4 HB5
    go_wp2_with fail
    generalize (w5.alloc (.cells #[.int .i64 f.id, .bool f.lo, .bool f.fa, .bool f.re, .int .i64 f.sz, .slice ga gn gc] 30)) = w6 at *
    have rf0 := fun d os => (frAt_regr HK6.out d os).c0
    have rf1 := fun d os => (frAt_regr HK6.out d os).c1
    have rf2 := fun d os => (frAt_regr HK6.out d os).c2
    have rf3 := fun d os => (frAt_regr HK6.out d os).c3
    have rf4 := fun d os => (frAt_regr HK6.out d os).c4
    have rf5 := fun d os => (frAt_regr HK6.out d os).c5
    have rg0 := fun d os => cell_regr (cell_kept HB6.out C0.out) d os
    have rg1 := fun d os => cell_regr (cell_kept HB6.out C1.out) d os
    have rg2 := fun d os => cell_regr (cell_kept HB6.out C2.out) d os
    have rg3 := fun d os => cell_regr (cell_kept HB6.out C3.out) d os
    have rg4 := fun d os => cell_regr (cell_kept HB6.out C4.out) d os
    have rg5 := fun d os => cell_regr (cell_kept HB6.out C5.out) d os
    refine wp_region_quiet_below (by kernel_rfl) (by kernel_rfl) ?_
    repeat (go_big_quiet_step ((go_at_call 15; exact Calls.regrown_of (HA6.out _ _ _ _ (isBytes_regr HYG.out _ _) (isBytes_regr HYF.out _ _)))))
    refine wpQuiet_nil ?_
    intro _ hw'
    obtain ⟨⟨dq, osq⟩, hw''⟩ := hw'
    have hbq := below_regrown w6 dq osq
    rw [hw'']
    generalize grow (redrawn w6 dq) osq = w7 at *
    have HB7 := Hid.mk (bl2 HB6.out hbq)
    clear hw'' hbq HB6 HK6 HYG HYF HA6 rf0 rf1 rf2 rf3 rf4 rf5 rg0 rg1 rg2 rg3 rg4 rg5
    go_wp2_with fail
    go_ret
    exact ⟨rfl, HB7.out⟩
set_option maxHeartbeats 16000000 in
set_option maxRecDepth 100000 in
theorem wwins_other (a : Option Addr) (n cap : Nat) (l : List FrV) (w : World) (hS : SizesAt w) (hR : RulesAt w) (hF : IsFrames w a n cap l) (hE : sendE l = 0) (hf : firstE l ≠ 0) :
    Calls Tryd.prog 4 #[.slice a n cap] w fun e w' => e = .returned (.bool true) ∧ Below w.heap.size w w' := by
  obtain ⟨i, hil, hidx, hbits, hfr⟩ := send_who hE
  have hl := hF.len
  have a1 := (send_any a n cap l w hS hR hF).mono (fun _ _ h => And.intro (h.2.1 hE) h.2.2)
  have a2 := fun W h1 h2 => first_any a n cap l W h1 h2
  rw [if_neg hf] at a2
  have q2 : (firstE l == 0) = false := by simpa using hf
  generalize firstE l = fe at *
  rw [hidx, ← hbits] at a1
  have hin : i < n := by omega
  cases a with
  | none => exact absurd (hF.none rfl) (by omega)
  | some x =>
    have cc := fun (j : Nat) (hj : j < 6) => hF.cell x rfl i hil j hj
    have hby := hF.bytes i hil
    have HF := Hid.mk hF
    have HS := Hid.mk hS
    have HR := Hid.mk hR
    generalize l[i] = v at *
    obtain ⟨f, fa, fl, fc⟩ := v
    have c0 := cc 0 (by omega)
    have c1 := cc 1 (by omega)
    have c2 := cc 2 (by omega)
    have c3 := cc 3 (by omega)
    have c4 := cc 4 (by omega)
    have c5 := cc 5 (by omega)
    rw [add_next] at c1 c2 c3 c4 c5
    rw [Nat.add_zero] at c0
    simp only [FrV.cells, List.getElem_cons_zero, List.getElem_cons_succ, Nat.reduceAdd] at c0 c1 c2 c3 c4 c5
    simp only at hby hfr a1
    have C0 := Hid.mk c0
    have C1 := Hid.mk c1
    have C2 := Hid.mk c2
    have C3 := Hid.mk c3
    have C4 := Hid.mk c4
    have C5 := Hid.mk c5
    have HY := Hid.mk hby
    have a4 := fun W h1 h2 hy => frBits_ok f fa fl fc W h1 h2 hy hfr
    have a5 := fun W h1 h2 => readBack_any f onesL [] ⟨(bitsL f).toArray⟩ W h1 h2 hfr (.inl rfl) (by simp [bitsL_pre]) rfl (by
      have h1 := bitsL_len f
      have h2 := preL_len f hfr
      show (bitsL f).toArray.size ≤ 1000
      simp; omega)
    have a6 := fun W ga gl gc h1 h2 => same_any f f ga fa gl gc fl fc W h1 h2
    have hdec : decide (f = f) = true := by simp
    rw [hdec] at a6
    have hsz : (preL f).length + 10 = (ByteArray.mk (bitsL f).toArray).size := by rw [← bitsL_len]; simp [ByteArray.size]
    rw [hsz] at a5
    generalize ByteArray.mk (bitsL f).toArray = BT at *
    have hin' : (i : Int) < (n : Int) := by omega
    have e1 : (BT.toList == BT.toList) = true := by simp
    have HA1 := Hid.mk a1
    have HA2 := Hid.mk a2
    have HA3 := Hid.mk (fun W h1 h2 => wired_any W h1 h2)
    have HA4 := Hid.mk a4
    have HA5 := Hid.mk a5
    have HA6 := Hid.mk a6
    unfold frameV at HA4 HA5 HA6
    clear hS hR hF hE hf cc c0 c1 c2 c3 c4 c5 hby a1 a2 a4 a5 a6 hdec hsz hfr hidx hbits hl
    go_enter Tryd.func4, Tryd.ntmps4
    go_wp2_with fail
    refine HA1.out.mono ?_
    rintro e w1 ⟨⟨gl, rfl, -⟩, hb1⟩
    have HB1 := Hid.mk hb1
    clear hb1
    go_wp2_with fail
    refine (HA2.out _ (HS.out.kept HB1.out) (HF.out.kept HB1.out)).mono ?_
    rintro e w2 ⟨rfl, hb2⟩
    have HB2 := Hid.mk (bl2 HB1.out hb2)
    clear hb2 HB1
    go_wp2_with fail
    refine (HA3.out _ (HS.out.kept HB2.out) (HR.out.kept HB2.out)).mono ?_
    rintro e w3 ⟨rfl, hb3⟩
    have HB3 := Hid.mk (bl2 HB2.out hb3)
    clear hb3 HB2
    have d0 := cell_kept HB3.out C0.out
    have d1 := cell_kept HB3.out C1.out
    have d2 := cell_kept HB3.out C2.out
    have d3 := cell_kept HB3.out C3.out
    have d4 := cell_kept HB3.out C4.out
    have d5 := cell_kept HB3.out C5.out
    go_wp2_with fail
    refine (HA4.out _ (HS.out.kept HB3.out) (HR.out.kept HB3.out) (isBytes_below HY.out HB3.out)).mono ?_
    rintro e w4 ⟨rfl, hb4⟩
    have HB4 := Hid.mk (bl2 HB3.out hb4)
    clear hb4 HB3 d0 d1 d2 d3 d4 d5
    go_wp2_with fail
    refine (HA5.out _ (HS.out.kept HB4.out) (HR.out.kept HB4.out)).mono ?_
    rintro e w5 ⟨ga, gn, gc, rfl, hyg, hb5⟩
    have HB5 := Hid.mk (bl2 HB4.out hb5)
    have hbx : Below w5.heap.size w5 (w5.alloc (.cells #[.int .i64 f.id, .bool f.lo, .bool f.fa, .bool f.re, .int .i64 f.sz, .slice ga gn gc] 30)) := (Below.refl _ _).alloc (Nat.le_refl _) _
    have HK6 := Hid.mk (FrAt.box w5 f.id f.lo f.fa f.re f.sz ga gn gc)
    unfold frameC at HK6
    have HYG := Hid.mk (isBytes_below hyg hbx)
    have HB6 := Hid.mk (bl2 HB5.out hbx)
    have HYF := Hid.mk (isBytes_below HY.out HB6.out)
    clear hb5 hyg hbx HB4 HB5
    go_wp2_with fail
    generalize (w5.alloc (.cells #[.int .i64 f.id, .bool f.lo, .bool f.fa, .bool f.re, .int .i64 f.sz, .slice ga gn gc] 30)) = w6 at *
    have rf0 := fun d os => (frAt_regr HK6.out d os).c0
    have rf1 := fun d os => (frAt_regr HK6.out d os).c1
    have rf2 := fun d os => (frAt_regr HK6.out d os).c2
    have rf3 := fun d os => (frAt_regr HK6.out d os).c3
    have rf4 := fun d os => (frAt_regr HK6.out d os).c4
    have rf5 := fun d os => (frAt_regr HK6.out d os).c5
    have rg0 := fun d os => cell_regr (cell_kept HB6.out C0.out) d os
    have rg1 := fun d os => cell_regr (cell_kept HB6.out C1.out) d os
    have rg2 := fun d os => cell_regr (cell_kept HB6.out C2.out) d os
    have rg3 := fun d os => cell_regr (cell_kept HB6.out C3.out) d os
    have rg4 := fun d os => cell_regr (cell_kept HB6.out C4.out) d os
    have rg5 := fun d os => cell_regr (cell_kept HB6.out C5.out) d os
    refine wp_region_quiet_below (by kernel_rfl) (by kernel_rfl) ?_
    repeat (go_big_quiet_step ((go_at_call 15; exact Calls.regrown_of (HA6.out _ _ _ _ (isBytes_regr HYG.out _ _) (isBytes_regr HYF.out _ _)))))
    refine wpQuiet_nil ?_
    intro _ hw'
    obtain ⟨⟨dq, osq⟩, hw''⟩ := hw'
    have hbq := below_regrown w6 dq osq
    rw [hw'']
    generalize grow (redrawn w6 dq) osq = w7 at *
    have HB7 := Hid.mk (bl2 HB6.out hbq)
    clear hw'' hbq HB6 HK6 HYG HYF HA6 rf0 rf1 rf2 rf3 rf4 rf5 rg0 rg1 rg2 rg3 rg4 rg5
    go_wp2_with fail
    go_ret
    exact ⟨rfl, HB7.out⟩
end Bw
namespace wireWins
open Bw Bm
theorem walk (a : Option Addr) (n cap : Nat) (l : List FrV) (w : World) (hF : IsFrames w a n cap l) (hL : laidMet Tryd.prog Rows.wireWinsRow.laid w) :
    Calls Tryd.prog 4 #[.slice a n cap] w fun e w' => e = .returned (.bool true) ∧ Below w.heap.size w w' := by
  have hS := sizes_of hL (by simp [Rows.wireWinsRow])
  have hR := rules_of hL (by simp [Rows.wireWinsRow])
  by_cases hE : sendE l = 0
  · by_cases hf : firstE l = 0
    · exact wwins_first a n cap l w hS hR hF hE hf
    · exact wwins_other a n cap l w hS hR hF hE hf
  · exact wwins_bad a n cap l w hS hR hF hE
end wireWins
end Go.Proofs.YthdhhmflfdbkhaaDoor
