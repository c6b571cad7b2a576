/- The law FilterBoth: what In answers of any filters; its walk where there is an error. -/
import Derived.Test.YtfmjhgggoklaoaaDoorFinLaw
import Derived.Test.YtfmjhgggoklaoaaDoorFilConc
import Derived.Deep.DeepCutAuto
import Derived.Deep.RegionHeld3
namespace Go.Proofs.YtfmjhgggoklaoaaDoor
open Go.ChangeShapes Go.WideShapes Go.ChangeAt Go.RowKit
namespace Bw
open Bm Cm
def inE (l : List Fl) (id : Int) (lo fa re : Bool) (sz : Int) (len : Nat) : Int := if chkFl l = 0 then frEn id lo fa re sz len else chkFl l
theorem in_gen (a : Option Addr) (n c : Nat) (l : List Fl) (id : Int) (lo fa re : Bool) (sz : Int) (fa0 : Option Addr) (len cap : Nat) (w : World) (hF : IsFils w a n c l) (hL : LastsAt w) (hS : SizesAt w) (hlen : len ≤ maxLen) :
    Calls Tryd.prog 9 #[.slice a n c, frameV id lo fa re sz fa0 len cap] w fun e w' => ∃ v, e = .returned (.tuple #[v, .int .i64 (inE l id lo fa re sz len)]) ∧ Below w.heap.size w w' := by
  unfold inE
  by_cases h : chkFl l = 0
  · rw [if_pos h]
    by_cases hg : frEn id lo fa re sz len = 0
    · obtain ⟨h1, h2⟩ := chkFl_zero h
      obtain ⟨ns, rfl, hok⟩ := fn_of h2
      have hln := hF.len
      obtain ⟨hi0, hi1⟩ := frEn_id hg
      obtain ⟨k, rfl⟩ := Int.eq_ofNat_of_zero_le hi0
      refine (in_ok a n c ns k lo fa re sz fa0 len cap w hF hL hS hlen hok (by omega) hg (by omega)).mono ?_
      rintro e w' ⟨v, rfl, _, hb⟩
      exact ⟨v, by rw [hg], hb⟩
    · refine (in_frame a n c l id lo fa re sz fa0 len cap w hF hL hS hlen h hg).mono ?_
      rintro e w' ⟨rfl, hb⟩
      exact ⟨_, rfl, hb⟩
  · rw [if_neg h]
    refine (in_bad a n c l id lo fa re sz fa0 len cap w hF hL h).mono ?_
    rintro e w' ⟨rfl, hb⟩
    exact ⟨_, rfl, hb⟩
theorem kept6 {w w' : World} {a0 a1 a2 a3 a4 a5 : Addr} {x0 x1 x2 x3 x4 x5 : Value} (h0 : w.cell? a0 = some x0) (h1 : w.cell? a1 = some x1) (h2 : w.cell? a2 = some x2) (h3 : w.cell? a3 = some x3) (h4 : w.cell? a4 = some x4) (h5 : w.cell? a5 = some x5) (hb : Below w.heap.size w w') :
    w'.cell? a0 = some x0 ∧ w'.cell? a1 = some x1 ∧ w'.cell? a2 = some x2 ∧ w'.cell? a3 = some x3 ∧ w'.cell? a4 = some x4 ∧ w'.cell? a5 = some x5 :=
  ⟨cell_kept hb h0, cell_kept hb h1, cell_kept hb h2, cell_kept hb h3, cell_kept hb h4, cell_kept hb h5⟩
/-- the two lists side by side, newly laid -/
theorem TwoAt.new (w : World) (a : Option Addr) (na ca : Nat) (b : Option Addr) (nb cb : Nat) : TwoAt (w.alloc (.cells #[.slice a na ca, .slice b nb cb] 22)).drew w.heap.size a na ca b nb cb := by
  have h : (w.alloc (.cells #[.slice a na ca, .slice b nb cb] 22)).drew.heap[w.heap.size]? = some (.cells #[.slice a na ca, .slice b nb cb] 22 (0, 0)) := heap_alloc_new w _
  exact ⟨cell_of_row _ _ 0 _ _ _ h, cell_of_row _ _ 1 _ _ _ h⟩
set_option maxHeartbeats 8000000 in
set_option maxRecDepth 100000 in
theorem fboth_bad (a : Option Addr) (na ca : Nat) (la : List Fl) (b : Option Addr) (nb cb : Nat) (lb : List Fl) (id : Int) (lo fa re : Bool) (sz : Int) (fa0 : Option Addr) (len cap : Nat) (w : World) (hF : IsFils w a na ca la) (hFb : IsFils w b nb cb lb) (hL : LastsAt w) (hS : SizesAt w) (hlen : len ≤ maxLen) (h48 : (na + nb) * 24 ≤ 281474976710656)
    (hne : inE la id lo fa re sz len ≠ 0 ∨ inE lb id lo fa re sz len ≠ 0 ∨ inE (la ++ lb) id lo fa re sz len ≠ 0) :
    Calls Tryd.prog 8 #[.slice a na ca, .slice b nb cb, frameV id lo fa re sz fa0 len cap] w fun e w' => e = .returned (.bool true) ∧ Below w.heap.size w w' := by
  have hb := below_box w id lo fa re sz fa0 len cap
  have HFR := Hid.mk (FrAt.box w id lo fa re sz fa0 len cap)
  have HB := Hid.mk hb
  have HFI := Hid.mk (fun W (hb : Below w.heap.size w W) => filtered_any W (hL.kept hb))
  have HA := Hid.mk (fun W (hb : Below w.heap.size w W) => in_gen a na ca la id lo fa re sz fa0 len cap W (hF.kept hb) (hL.kept hb) (hS.kept hb) hlen)
  have HAb := Hid.mk (fun W (hb : Below w.heap.size w W) => in_gen b nb cb lb id lo fa re sz fa0 len cap W (hFb.kept hb) (hL.kept hb) (hS.kept hb) hlen)
  have HAc := Hid.mk (fun x cx W (hX : IsFils W x (na + nb) cx (la ++ lb)) (hb : Below w.heap.size w W) => in_gen x (na + nb) cx (la ++ lb) id lo fa re sz fa0 len cap W hX (hL.kept hb) (hS.kept hb) hlen)
  have HF := Hid.mk hF
  have HFb := Hid.mk hFb
  have H48 := Hid.mk h48
  obtain ⟨e1, he1⟩ : ∃ e1, e1 = inE la id lo fa re sz len := ⟨_, rfl⟩
  obtain ⟨e2, he2⟩ : ∃ e2, e2 = inE lb id lo fa re sz len := ⟨_, rfl⟩
  obtain ⟨e3, he3⟩ : ∃ e3, e3 = inE (la ++ lb) id lo fa re sz len := ⟨_, rfl⟩
  rw [← he1] at hne HA
  rw [← he2] at hne HAb
  rw [← he3] at hne HAc
  have HNE := Hid.mk hne
  clear hF hFb hL hS hlen h48 hb he1 he2 he3 hne
  obtain ⟨k0, k1, k2, k3, k4, k5⟩ := HFR.out
  unfold frameC at HB HFR k0 k1 k2 k3 k4 k5
  unfold frameV at HA HAb HAc ⊢
  go_enter Tryd.func8, Tryd.ntmps8
  go_wp2_with fail
  refine (HA.out _ HB.out).mono ?_
  rintro e w1 ⟨v1, rfl, hb1⟩
  have HB1 := Hid.mk (bl2 HB.out hb1)
  have HFR1 := Hid.mk (HFR.out.kept hb1)
  clear hb1 k0 k1 k2 k3 k4 k5 HB HFR HA
  obtain ⟨k0, k1, k2, k3, k4, k5⟩ := HFR1.out
  go_wp2_with fail
  refine (HAb.out _ HB1.out).mono ?_
  rintro e w2 ⟨v2, rfl, hb2⟩
  have HB2 := Hid.mk (bl2 HB1.out hb2)
  have HFR2 := Hid.mk (HFR1.out.kept hb2)
  clear hb2 k0 k1 k2 k3 k4 k5 HB1 HFR1 HAb
  obtain ⟨k0, k1, k2, k3, k4, k5⟩ := HFR2.out
  go_wp2_with fail
  go_cut [11, 12] (fun s11 s12 wx => s12 = .int .i64 e3 ∧ Hid (Below w.heap.size w wx))
  case first =>
    have hd2 := adB w2 (.cells #[.slice a na ca, .slice b nb cb] 22)
    have HCA := Hid.mk (concat_any w2.heap.size a na ca la b nb cb lb _ (TwoAt.new w2 a na ca b nb cb) ((HF.out.kept HB2.out).kept hd2) ((HFb.out.kept HB2.out).kept hd2) H48.out)
    have HD2 := Hid.mk hd2
    clear hd2
    go_region_held3 (fun w' => w'.cell? ⟨w.heap.size, 0, none⟩ = some (.int .i64 id) ∧ w'.cell? ⟨w.heap.size, 1, none⟩ = some (.bool lo) ∧ w'.cell? ⟨w.heap.size, 2, none⟩ = some (.bool fa) ∧ w'.cell? ⟨w.heap.size, 3, none⟩ = some (.bool re) ∧ w'.cell? ⟨w.heap.size, 4, none⟩ = some (.int .i64 sz) ∧ w'.cell? ⟨w.heap.size, 5, none⟩ = some (.slice fa0 len cap))
      (with_reducible first | exact ⟨t0, t1, t2, t3, t4, t5⟩ | exact ⟨u0, u1, u2, u3, u4, u5⟩ | exact kept6 k0 k1 k2 k3 k4 k5 (dwB _) | exact kept6 k0 k1 k2 k3 k4 k5 (adB _ _))
      (first
      | (go_at_call 23; with_reducible refine HCA.out.mono ?_; rintro e w3 ⟨x, cx, rfl, hX, hb3⟩; have HX3 := Hid.mk hX; have HB3 := Hid.mk (bl2 (bl2 HB2.out HD2.out) hb3); have HFR3 := Hid.mk (HFR2.out.kept (bl2 HD2.out hb3)); obtain ⟨u0, u1, u2, u3, u4, u5⟩ := HFR3.out; clear hX hb3)
      | (go_at_call 9; with_reducible refine (HAc.out x cx w3 HX3.out HB3.out).mono ?_; rintro e w4 ⟨v3, rfl, hb4⟩; have HB4 := Hid.mk (bl2 HB3.out hb4); obtain ⟨t0, t1, t2, t3, t4, t5⟩ := HFR3.out.kept hb4; clear hb4))
    all_goals focus
      go_wp2_with fail
      go_meet
      exact ⟨rfl, HB4⟩
  case rest =>
    obtain ⟨rfl, HBc⟩ := hcut
    clear HB2 HFR2 k0 k1 k2 k3 k4 k5 HF HFb HAc H48
    by_cases h1 : e1 = 0
    · have d1 : (e1 != 0) = false := by rw [h1]; rfl
      by_cases h2 : e2 = 0
      · have d2 : (e2 != 0) = false := by rw [h2]; rfl
        have d3 : (e3 != 0) = true := by
          rcases HNE.out with h | h | h
          · exact absurd h1 h
          · exact absurd h2 h
          · simpa using h
        clear h1 h2
        go_wp2_with fail
        refine (HFI.out _ HBc.out).mono ?_
        rintro e w5 ⟨rfl, hb5⟩
        have HB5 := Hid.mk (bl2 HBc.out hb5)
        clear hb5
        go_wp2_with fail
        refine (HFI.out _ HB5.out).mono ?_
        rintro e w6 ⟨rfl, hb6⟩
        have HB6 := Hid.mk (bl2 HB5.out hb6)
        clear hb6
        go_wp2_with fail
        go_ret
        exact ⟨rfl, HB6.out⟩
      · have d2 : (e2 != 0) = true := by simpa using h2
        clear h1 h2
        go_wp2_with fail
        refine (HFI.out _ HBc.out).mono ?_
        rintro e w5 ⟨rfl, hb5⟩
        have HB5 := Hid.mk (bl2 HBc.out hb5)
        clear hb5
        go_wp2_with fail
        refine (HFI.out _ HB5.out).mono ?_
        rintro e w6 ⟨rfl, hb6⟩
        have HB6 := Hid.mk (bl2 HB5.out hb6)
        clear hb6
        go_wp2_with fail
        go_ret
        exact ⟨rfl, HB6.out⟩
    · have d1 : (e1 != 0) = true := by simpa using h1
      clear h1
      go_wp2_with fail
      refine (HFI.out _ HBc.out).mono ?_
      rintro e w5 ⟨rfl, hb5⟩
      have HB5 := Hid.mk (bl2 HBc.out hb5)
      clear hb5
      go_wp2_with fail
      refine (HFI.out _ HB5.out).mono ?_
      rintro e w6 ⟨rfl, hb6⟩
      have HB6 := Hid.mk (bl2 HB5.out hb6)
      clear hb6
      go_wp2_with fail
      go_ret
      exact ⟨rfl, HB6.out⟩
end Bw
end Go.Proofs.YtfmjhgggoklaoaaDoor
