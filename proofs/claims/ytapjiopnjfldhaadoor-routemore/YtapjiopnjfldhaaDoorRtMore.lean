/- The law RouteMore. -/
import Derived.Test.YtapjiopnjfldhaaDoorRtMoreM
import Derived.Test.YtapjiopnjfldhaaDoorRtLed
import Derived.Deep.AppendLies
namespace Go.Proofs.YtapjiopnjfldhaaDoor
open Go.ChangeShapes Go.WideShapes Go.ChangeAt Go.RowKit
namespace Bw
open Bm Cm
set_option linter.unusedVariables false
theorem drewBR (w : World) : Below w.heap.size w w.drew := ⟨rfl, rfl, rfl, Nat.le_refl _, fun _ _ => rfl⟩
theorem adrewBR (w : World) (o : Obj) : Below w.heap.size w (w.alloc o).drew := bl2 (awB w o) (drewBR _)
theorem allocR (w : World) (o : Obj) : (w.alloc o).heap.size = w.heap.size + 1 := Array.size_push _
theorem own_baseR {w : World} {b b' : Nat} {e : TypeId} {size : Nat} {v : Value} {n : Nat} {xs : List Value} (h : w.ownsRow b e size v n xs) (hb : b' ≤ b) : w.ownsRow b' e size v n xs := by
  obtain ⟨h1, h2⟩ := h
  refine ⟨h1, ?_⟩
  rcases h2 with h2 | ⟨g, c, cur, q1, q2, q3⟩
  · exact .inl h2
  · exact .inr ⟨g, c, cur, q1, Nat.le_trans hb q2, q3⟩
theorem below_grownR {base : Nat} {w a b : World} {v : Value} {e : TypeId} {size n : Nat} {xs : List Value} (h : Below base w a) (hv : a.ownsRow base e size v n xs) (hg : a.grownBy b v.ownBlock) (hs : base ≤ a.heap.size) : Below base w b := Below.grown h hg hs (fun q hq => (hv.lt q hq).1)
theorem rts_owned {w : World} {base g m d : Nat} {l : List Rt} (h : w.ownsRow base 45 7 (.slice (some ⟨g, 0, none⟩) m d) m (rtsC l)) (hl : l.length = m) : IsRts w (some ⟨g, 0, none⟩) m d l := by
  subst hl
  obtain ⟨a, c, he, h2⟩ := rts_of h
  cases he
  exact h2
theorem rtsC_snoc (l : List Rt) (r : Rt) : rtsC l ++ r.cl = rtsC (l ++ [r]) := by unfold rtsC; simp
theorem seven_at {w : World} {g : Nat} {r : Rt} (h : RtAt w g r) : ∀ j u, (r.cl)[j]? = some u → w.cell? (Addr.add ⟨g, 0, none⟩ j) = some u := by
  intro j u hu
  have hj : j < 7 := (List.getElem?_eq_some_iff.1 hu).1
  rw [Addr.add_lit, Nat.zero_add]
  rcases seven hj with rfl | rfl | rfl | rfl | rfl | rfl | rfl
  · cases hu; exact h.c0
  · cases hu; exact h.c1
  · cases hu; exact h.c2
  · cases hu; exact h.c3
  · cases hu; exact h.c4
  · cases hu; exact h.c5
  · cases hu; exact h.c6
theorem cl_oneR (r : Rt) : ∀ u ∈ r.cl, u.oneCell' = true := by
  intro u hu
  unfold Rt.cl at hu
  simp only [List.mem_cons, List.not_mem_nil, or_false] at hu
  rcases hu with rfl | rfl | rfl | rfl | rfl | rfl | rfl <;> rfl
theorem enter_more : ∀ args w, (callFunc 25 args).run Tryd.prog w = .ok (.enter 25 args) w := enters_of Tryd.func25 (by kernel_rfl) rfl
theorem rf_all {w : World} {g h : Nat} {r : Rt} {id : Int} {lo fa re : Bool} {sz : Int} {fa0 : Option Addr} {len cap : Nat} (h1 : RtAt w g r) (h2 : Row6 w h id lo fa re sz fa0 len cap) : w.cell? ⟨g, 0, none⟩ = some (.int .i64 r.fr) ∧ w.cell? ⟨g, 1, none⟩ = some (.int .i64 r.tb) ∧ w.cell? ⟨g, 2, none⟩ = some (.int .i64 r.f.w) ∧ w.cell? ⟨g, 3, none⟩ = some (.int .i64 r.f.m) ∧ w.cell? ⟨g, 4, none⟩ = some (.bool r.f.lo) ∧ w.cell? ⟨g, 5, none⟩ = some (.int .i64 r.add) ∧ w.cell? ⟨g, 6, none⟩ = some (.int .i64 r.ev) ∧ w.cell? ⟨h, 0, none⟩ = some (.int .i64 id) ∧ w.cell? ⟨h, 1, none⟩ = some (.bool lo) ∧ w.cell? ⟨h, 2, none⟩ = some (.bool fa) ∧ w.cell? ⟨h, 3, none⟩ = some (.bool re) ∧ w.cell? ⟨h, 4, none⟩ = some (.int .i64 sz) ∧ w.cell? ⟨h, 5, none⟩ = some (.slice fa0 len cap) := by
  obtain ⟨q0, q1, q2, q3, q4, q5⟩ := h2.fr
  exact ⟨h1.c0, h1.c1, h1.c2, h1.c3, h1.c4, h1.c5, h1.c6, q0, q1, q2, q3, q4, q5⟩
set_option maxHeartbeats 16000000 in
set_option maxRecDepth 100000 in
theorem rmore_any (a : Option Addr) (n c : Nat) (rs : List Rt) (r : Rt) (bus id : Int) (lo fa re : Bool) (sz : Int) (fa0 : Option Addr) (len cap : Nat) (dt : List UInt8) (w : World) (hR : IsRts w a n c rs) (hL : LastsAt w) (hS : SizesAt w) (hD : IsBytes w fa0 len cap dt) (hn : n ≤ 2513169434843) :
    Calls Tryd.prog 6 #[.slice a n c, r.val, .int .i64 bus, frameV id lo fa re sz fa0 len cap] w fun e w' => e = .returned (.bool true) ∧ Below w.heap.size w w' := by
  have hba := awB w (rtC r)
  have hbb := awB (w.alloc (rtC r)) (frameC id lo fa re sz fa0 len cap)
  have hb0 := bl2 hba hbb
  have HX0 := Hid.mk ((RtAt.new w r).kept hbb)
  have HF0 := Hid.mk (Row6.new (w.alloc (rtC r)) id lo fa re sz fa0 len cap)
  rw [allocR] at HF0
  have HB0 := Hid.mk hb0
  have HWO := Hid.mk (spread_any sortLn a n c rs bus id lo fa re sz fa0 len cap dt _ (hR.kept hb0) (hL.kept hb0) (hS.kept hb0) (isBytes_below hD hb0) (by omega))
  have HR0 := Hid.mk (hR.kept hb0)
  have HL0 := Hid.mk (hL.kept hb0)
  have HS0 := Hid.mk (hS.kept hb0)
  have HD0 := Hid.mk (isBytes_below hD hb0)
  have HNN := Hid.mk hn
  have HLN := Hid.mk hR.len
  have HLX : Hid (w.heap.size + 1 < ((w.alloc (rtC r)).alloc (frameC id lo fa re sz fa0 len cap)).heap.size) := Hid.mk (by rw [allocR, allocR]; omega)
  obtain ⟨i0, hi0, hz0, hz1, hz2⟩ := info_parts info_rt
  have hn3 : n ≤ 2513169434843 := hn
  clear hR hL hS hD hba hbb hb0 hn
  obtain ⟨fr, tb, ⟨fw, fm, flo⟩, add, ev⟩ := r
  unfold rtC frameC at HX0 HF0 HR0 HL0 HS0 HD0 HB0 HWO HLX
  unfold frameV at HWO
  unfold Rt.val frameV
  simp only at HX0 HF0 HR0 HL0 HS0 HD0 HB0 HWO HLX
  obtain ⟨p0, p1, p2, p3, p4, p5⟩ := HF0.out.fr
  go_enter Tryd.func6, Tryd.ntmps6
  go_wp2_with fail
  refine HWO.out.mono ?_
  rintro e w1 ⟨⟨a1, n1, c1, E1, rfl, hsp1⟩, hb1⟩
  have HB1 := Hid.mk (bl2 HB0.out hb1)
  have HR1 := Hid.mk (HR0.out.kept hb1)
  have HL1 := Hid.mk (HL0.out.kept hb1)
  have HS1 := Hid.mk (HS0.out.kept hb1)
  have HD1' := Hid.mk (isBytes_below HD0.out hb1)
  have HX1 := Hid.mk (HX0.out.kept hb1)
  have HF1 := Hid.mk (HF0.out.kept hb1)
  have HLX1 := Hid.mk (Nat.lt_of_lt_of_le HLX.out hb1.size)
  have HO1 := Hid.mk hsp1
  clear hb1 hsp1 HWO HR0 HL0 HS0 HD0 HX0 HF0 HB0 HLX p0 p1 p2 p3 p4 p5
  go_wp2_with fail
  go_cut [11, 12] (fun s7 s8 wx => ∃ b2 m2 d2 E2, s7 = .slice b2 m2 d2 ∧ s8 = .int .i64 E2 ∧ Hid (SpA (rs ++ [⟨fr, tb, ⟨fw, fm, flo⟩, add, ev⟩]) bus id lo fa re sz len dt wx b2 m2 d2 E2) ∧ Hid (Below w1.heap.size w1 wx))
  case first =>
    have hS0 := rf_all HX1.out HF1.out
    have HD1 := Hid.mk (drewBR w1)
    have HD2 := Hid.mk (adrewBR w1 (.cells #[.int .i64 fr, .int .i64 tb, .int .i64 fw, .int .i64 fm, .bool flo, .int .i64 add, .int .i64 ev] 45))
    have HCL : Hid (∀ W, Below w1.heap.size w1 W → Calls Tryd.prog 23 #[.slice a n c] W fun e w' => ∃ v, e = .returned v ∧ w'.ownsRow w1.heap.size 45 7 v n (rtsC rs) ∧ Below W.heap.size W w') := Hid.mk (fun W hW => (cloneR_any a n c rs W (HR1.out.kept hW) HNN.out).mono (fun e w' ⟨v, h1, h2, h3⟩ => ⟨v, h1, own_baseR h2 hW.size, h3⟩))
    have HWO : Hid (∀ W g d, Below w1.heap.size w1 W → IsRts W (some ⟨g, 0, none⟩) (n + 1) d (rs ++ [⟨fr, tb, ⟨fw, fm, flo⟩, add, ev⟩]) → Calls Tryd.prog 19 #[.slice (some ⟨g, 0, none⟩) (n + 1) d, .int .i64 bus, .agg #[.int .i64 id, .bool lo, .bool fa, .bool re, .int .i64 sz, .slice fa0 len cap]] W fun e w' => (∃ a' n' c' E, e = .returned (.tuple #[.slice a' n' c', .int .i64 E]) ∧ SpA (rs ++ [⟨fr, tb, ⟨fw, fm, flo⟩, add, ev⟩]) bus id lo fa re sz len dt w' a' n' c' E) ∧ Below W.heap.size W w') := Hid.mk (fun W g d hW hI => spread_any sortLn _ _ _ _ bus id lo fa re sz fa0 len cap dt W hI (HL1.out.kept hW) (HS1.out.kept hW) (isBytes_below HD1'.out hW) (by omega))
    have HK2 : Hid (RtAt (w1.alloc (.cells #[.int .i64 fr, .int .i64 tb, .int .i64 fw, .int .i64 fm, .bool flo, .int .i64 add, .int .i64 ev] 45)).drew w1.heap.size ⟨fr, tb, ⟨fw, fm, flo⟩, add, ev⟩) := Hid.mk ((RtAt.new w1 ⟨fr, tb, ⟨fw, fm, flo⟩, add, ev⟩).kept (drewBR _))
    have HKA : Hid (∀ W, Below w1.heap.size w1 W → W.cell? ⟨w.heap.size, 0, none⟩ = some (.int .i64 fr) ∧ W.cell? ⟨w.heap.size, 1, none⟩ = some (.int .i64 tb) ∧ W.cell? ⟨w.heap.size, 2, none⟩ = some (.int .i64 fw) ∧ W.cell? ⟨w.heap.size, 3, none⟩ = some (.int .i64 fm) ∧ W.cell? ⟨w.heap.size, 4, none⟩ = some (.bool flo) ∧ W.cell? ⟨w.heap.size, 5, none⟩ = some (.int .i64 add) ∧ W.cell? ⟨w.heap.size, 6, none⟩ = some (.int .i64 ev) ∧ W.cell? ⟨w.heap.size + 1, 0, none⟩ = some (.int .i64 id) ∧ W.cell? ⟨w.heap.size + 1, 1, none⟩ = some (.bool lo) ∧ W.cell? ⟨w.heap.size + 1, 2, none⟩ = some (.bool fa) ∧ W.cell? ⟨w.heap.size + 1, 3, none⟩ = some (.bool re) ∧ W.cell? ⟨w.heap.size + 1, 4, none⟩ = some (.int .i64 sz) ∧ W.cell? ⟨w.heap.size + 1, 5, none⟩ = some (.slice fa0 len cap)) := Hid.mk (fun W hW => rf_all (HX1.out.kept hW) (HF1.out.kept hW))
    go_region_held3 (fun w' => w'.cell? ⟨w.heap.size, 0, none⟩ = some (.int .i64 fr) ∧ w'.cell? ⟨w.heap.size, 1, none⟩ = some (.int .i64 tb) ∧ w'.cell? ⟨w.heap.size, 2, none⟩ = some (.int .i64 fw) ∧ w'.cell? ⟨w.heap.size, 3, none⟩ = some (.int .i64 fm) ∧ w'.cell? ⟨w.heap.size, 4, none⟩ = some (.bool flo) ∧ w'.cell? ⟨w.heap.size, 5, none⟩ = some (.int .i64 add) ∧ w'.cell? ⟨w.heap.size, 6, none⟩ = some (.int .i64 ev) ∧ w'.cell? ⟨w.heap.size + 1, 0, none⟩ = some (.int .i64 id) ∧ w'.cell? ⟨w.heap.size + 1, 1, none⟩ = some (.bool lo) ∧ w'.cell? ⟨w.heap.size + 1, 2, none⟩ = some (.bool fa) ∧ w'.cell? ⟨w.heap.size + 1, 3, none⟩ = some (.bool re) ∧ w'.cell? ⟨w.heap.size + 1, 4, none⟩ = some (.int .i64 sz) ∧ w'.cell? ⟨w.heap.size + 1, 5, none⟩ = some (.slice fa0 len cap)) (with_reducible first | exact hS0 | exact HKA.out _ HD1.out | exact HKA.out _ HD2.out | exact HKA.out _ HB2.out | exact HKA.out _ (bl2 HB2.out (awB _ _)) | exact HKA.out _ HB3.out | exact HKA.out _ HB4.out) (first
      | (go_at_call 23; (first
        | (with_reducible refine (HCL.out _ HD1.out).mono ?_; rintro e w2 ⟨v, rfl, ho2, hb2⟩; have HB2 := Hid.mk (bl2 HD1.out hb2); have HO2 := Hid.mk ho2; clear hb2 ho2)
        | (with_reducible refine (HCL.out _ HD2.out).mono ?_; rintro e w2 ⟨v, rfl, ho2, hb2⟩; have HB2 := Hid.mk (bl2 HD2.out hb2); have HO2 := Hid.mk ho2; have HK3 := Hid.mk (HK2.out.kept hb2); clear hb2 ho2)))
      | (go_at_call 19; with_reducible refine (HWO.out _ _ _ HB3.out HI3.out).mono ?_; rintro e w4 ⟨⟨b2, m2, d2, E2, rfl, hok2⟩, hb4⟩; have HB4 := Hid.mk (bl2 HB3.out hb4); have HO4 := Hid.mk hok2; clear hb4 hok2)
      | (refine step_append_lies _ rfl (.tmp 24) (.tmp 26) 22 rfl w1.heap.size 45 i0 (.agg #[.int .i64 0, .int .i64 0, .int .i64 0, .int .i64 0, .bool false, .int .i64 0, .int .i64 0]) 7 56 Tryd.underlying22 hi0 hz0 hz1 hz2 rfl (by decide) _ n _ rfl (ownsRow_below HO2.out (awB w2 _)) ⟨w2.heap.size, 0, none⟩ 1 1 [.int .i64 fr, .int .i64 tb, .int .i64 fw, .int .i64 fm, .bool flo, .int .i64 add, .int .i64 ev] rfl rfl (new_cellsR w2 [.int .i64 fr, .int .i64 tb, .int .i64 fw, .int .i64 fm, .bool flo, .int .i64 add, .int .i64 ev] _) (cl_oneR ⟨fr, tb, ⟨fw, fm, flo⟩, add, ev⟩) (by decide) (by unfold maxLen; omega) (by omega) (by have := HB2.out.size; rw [allocR]; omega) _ rfl ?_
         intro g3 d3 w3 hown3 hgrow3 hblk3 hlt3
         have HB3 := Hid.mk (below_grownR (bl2 HB2.out (awB w2 _)) (ownsRow_below HO2.out (awB w2 _)) hgrow3 (by have := HB2.out.size; rw [allocR]; omega))
         have HI3 := Hid.mk (rts_owned (l := rs ++ [⟨fr, tb, ⟨fw, fm, flo⟩, add, ev⟩]) (by rw [← rtsC_snoc]; exact hown3) (by rw [List.length_append, HLN.out]; rfl))
         clear hown3 hgrow3 hblk3 hlt3)
      | (refine step_append_lies _ rfl (.tmp 24) (.tmp 26) 22 rfl w1.heap.size 45 i0 (.agg #[.int .i64 0, .int .i64 0, .int .i64 0, .int .i64 0, .bool false, .int .i64 0, .int .i64 0]) 7 56 Tryd.underlying22 hi0 hz0 hz1 hz2 rfl (by decide) _ n _ rfl HO2.out ⟨w1.heap.size, 0, none⟩ 1 1 [.int .i64 fr, .int .i64 tb, .int .i64 fw, .int .i64 fm, .bool flo, .int .i64 add, .int .i64 ev] rfl rfl (seven_at HK3.out) (cl_oneR ⟨fr, tb, ⟨fw, fm, flo⟩, add, ev⟩) (by decide) (by unfold maxLen; omega) (by omega) HB2.out.size _ rfl ?_
         intro g3 d3 w3 hown3 hgrow3 hblk3 hlt3
         have HB3 := Hid.mk (below_grownR HB2.out HO2.out hgrow3 HB2.out.size)
         have HI3 := Hid.mk (rts_owned (l := rs ++ [⟨fr, tb, ⟨fw, fm, flo⟩, add, ev⟩]) (by rw [← rtsC_snoc]; exact hown3) (by rw [List.length_append, HLN.out]; rfl))
         clear hown3 hgrow3 hblk3 hlt3))
    all_goals focus
      go_wp2_with fail
      go_meet
      exact ⟨_, _, _, _, rfl, rfl, HO4, HB4⟩
  case rest =>
    obtain ⟨b2, m2, d2, E2, rfl, rfl, HO2, HBc⟩ := hcut
    have HB2 := Hid.mk (bl2 HB1.out HBc.out)
    have HL2 := Hid.mk (HL1.out.kept HBc.out)
    have HS2 := Hid.mk (HS1.out.kept HBc.out)
    have HO1c := Hid.mk (HO1.out.kept HBc.out)
    have HDL := Hid.mk (fun W h1 h2 => routed_any W h1 h2)
    clear HB1 HL1 HS1 HBc HO1 HR1 HX1 HF1 HLX1 HD1'
    go_wp2_with fail
    refine (HDL.out _ HL2.out HS2.out).mono ?_
    rintro e w3 ⟨rfl, hb3⟩
    have HB3 := Hid.mk (bl2 HB2.out hb3)
    have HL3 := Hid.mk (HL2.out.kept hb3)
    have HS3 := Hid.mk (HS2.out.kept hb3)
    have HMO : Hid (E2 = 0 → E1 ≠ 13 ∧ (E1 = 0 → ∃ P1 P2, IsLns w3 a1 n1 c1 P1 dt ∧ IsLns w3 b2 m2 d2 P2 dt ∧ ∀ x ∈ P1, P2.any (sameB x) = true)) := Hid.mk (fun h0 => more_ok (HO1c.out.kept hb3) (HO2.out.kept hb3) h0)
    clear hb3 HL2 HS2 HB2 HO1c HO2
    by_cases h1 : E1 = 0
    · subst h1
      by_cases h2 : E2 = 0
      · subst h2
        obtain ⟨P1, P2, hP1, hP2, hall⟩ := (HMO.out rfl).2 rfl
        have HP1 := Hid.mk hP1
        have HP2 := Hid.mk hP2
        have HAL := Hid.mk hall
        have hn63 : (n1 : Int) ≤ 9223372036854775807 := by have h1 := hP1.le; have h2 := hP1.max; unfold maxLen at h2; omega
        clear hP1 hP2 hall HMO
        go_wp2_with fail
        go_loopw [54] (fun i wr => ∃ k : Nat, k ≤ n1 ∧ i = .int .i64 k ∧ Hid (Below w3.heap.size w3 wr)) (fun i _ => n1 - (intOf i).toNat)
        case atStart => exact ⟨0, Nat.zero_le _, rfl, Hid.mk (Below.refl _ _)⟩
        case round =>
          obtain ⟨k, hk, rfl, HB⟩ := hrel
          by_cases hlt : k < n1
          · have hlt' : (k : Int) < (n1 : Int) := by omega
            obtain ⟨x, rfl⟩ := HP1.out.some hlt
            obtain ⟨c0, c1', c2, c3, c4, c5, c6, c7⟩ := (HP1.out.kept HB.out).cell x rfl k hlt
            have hby := (HP1.out.kept HB.out).bytes k hlt
            obtain ⟨y, hy⟩ : ∃ y, y = P1.getD k noLn := ⟨_, rfl⟩
            have hym : y ∈ P1 := by rw [hy, getL (by rw [HP1.out.len]; exact hlt)]; exact List.getElem_mem _
            rw [← hy] at c0 c1' c2 c3 c4 c5 c6 c7 hby
            have hbx := awB wr (lnCl y)
            have HBX := Hid.mk (bl2 HB.out hbx)
            have HCF := Hid.mk (containsFuncL_any 25 #[.pointer (some ⟨wr.heap.size, 0, none⟩)] enter_more (sameB y) b2 m2 d2 P2 dt (wr.alloc (lnCl y)) (HP2.out.kept HBX.out) (fun W z hW hz => moreL_any y z wr.heap.size dt W ((LnAt.new wr y).kept hW) (isBytes_below (isBytes_below hby hbx) hW) hz))
            rw [HAL.out y hym] at HCF
            obtain ⟨yt, yb, yi, yl, yf, yr, yz, ya, yn, yc⟩ := y
            unfold lnCl at HBX HCF
            simp only at c0 c1' c2 c3 c4 c5 c6 c7 HBX HCF
            clear hy hym hby hbx
            go_wp2_with fail
            refine HCF.out.mono ?_
            rintro e w5 ⟨rfl, hb5⟩
            have HB5 := Hid.mk (bl2 HBX.out hb5)
            clear hb5
            go_wp2_with fail
            go_roundw
            case rel => exact ⟨k + 1, by omega, by go_num, HB5⟩
            case measure => simp [intOf]; omega
          · obtain rfl : n1 = k := by omega
            go_wp2_with fail
            go_ret
            exact ⟨rfl, bl2 HB3.out HB.out⟩
      · have hne : (E2 != 0) = true := by simpa using h2
        clear h2 HMO
        go_wp2_with fail
        refine (HDL.out _ HL3.out HS3.out).mono ?_
        rintro e w4 ⟨rfl, hb4⟩
        have HB4 := Hid.mk (bl2 HB3.out hb4)
        clear hb4
        go_wp2_with fail
        go_ret
        exact ⟨rfl, HB4.out⟩
    · have hne : (E1 != 0) = true := by simpa using h1
      by_cases h13 : E1 = 13
      · subst h13
        have hne2 : (E2 != 0) = true := by
          have : E2 ≠ 0 := fun h => (HMO.out h).1 rfl
          simpa using this
        clear h1 HMO
        go_wp2_with fail
        refine (HDL.out _ HL3.out HS3.out).mono ?_
        rintro e w4 ⟨rfl, hb4⟩
        have HB4 := Hid.mk (bl2 HB3.out hb4)
        clear hb4
        go_wp2_with fail
        go_ret
        exact ⟨rfl, HB4.out⟩
      · have hne2 : (E1 != 13) = true := by simpa using h13
        clear h1 h13 HMO
        go_wp2_with fail
        refine (HDL.out _ HL3.out HS3.out).mono ?_
        rintro e w4 ⟨rfl, hb4⟩
        have HB4 := Hid.mk (bl2 HB3.out hb4)
        clear hb4
        go_wp2_with fail
        go_ret
        exact ⟨rfl, HB4.out⟩
end Bw
end Go.Proofs.YtapjiopnjfldhaaDoor
