/- omnibusbig's fractions: den, and norm of one whose lower part is above 0. -/
import Derived.Test.YtgknolliicachaaDoorBigZ
import Derived.Test.YtgknolliicachaaDoorSigMath
import Derived.Deep.RegionHeld3
namespace Go.Proofs.YtgknolliicachaaDoor
open Go.ChangeShapes Go.WideShapes Go.ChangeAt Go.RowKit Go.Sort
namespace Ww
open Wm Sm
open Bw (Tch bl2 cell_kept)
set_option linter.unusedVariables false
/-- the fraction a over b lies in block g, as it stands -/
def RatAt (w : World) (g : Nat) (a b : Int) : Prop := ∃ va xs vb ys, BlkAt w g [.bool (decide (a < 0)), va, .bool (decide (b < 0)), vb] 70 ∧ (IsW w va xs ∧ trimW xs ∧ valW xs = a.natAbs) ∧ IsW w vb ys ∧ trimW ys ∧ valW ys = b.natAbs
theorem RatAt.num {w : World} {g : Nat} {a b : Int} (h : RatAt w g a b) : ZAt w g 0 a := by
  obtain ⟨va, xs, vb, ys, hB, ⟨h1, h2, h3⟩, _⟩ := h
  exact ⟨va, xs, hB.cell rfl, hB.cell rfl, h1, h2, h3⟩
theorem RatAt.den {w : World} {g : Nat} {a b : Int} (h : RatAt w g a b) : ZAt w g 2 b := by
  obtain ⟨va, xs, vb, ys, hB, _, h1, h2, h3⟩ := h
  exact ⟨vb, ys, hB.cell rfl, hB.cell rfl, h1, h2, h3⟩
theorem RatAt.kept {w w' : World} {g : Nat} {a b : Int} (h : RatAt w g a b) (hb : Below w.heap.size w w') : RatAt w' g a b := by
  obtain ⟨va, xs, vb, ys, hB, ⟨h1, h2, h3⟩, h4, h5, h6⟩ := h
  exact ⟨va, xs, vb, ys, hB.kept hb, ⟨h1.below hb, h2, h3⟩, h4.below hb, h5, h6⟩
/-- a variable of a fraction -/
def RatV (cs : List Value) : Prop := ∃ b1 a1 l1 c1 b2 a2 l2 c2, cs = [.bool b1, .slice a1 l1 c1, .bool b2, .slice a2 l2 c2]
theorem RatV.noW {cs : List Value} (h : RatV cs) : NoW cs := by
  obtain ⟨b1, a1, l1, c1, b2, a2, l2, c2, rfl⟩ := h
  intro v hv x e
  subst e
  simp at hv
theorem RatAt.var {w : World} {g : Nat} {a b : Int} (h : RatAt w g a b) : ∃ cs, BlkAt w g cs 70 ∧ RatV cs := by
  obtain ⟨va, xs, vb, ys, hB, ⟨h1, _⟩, h4, _⟩ := h
  obtain ⟨a1, l1, c1, rfl⟩ := h1.sliceB
  obtain ⟨a2, l2, c2, rfl⟩ := h4.sliceB
  exact ⟨_, hB, _, _, _, _, _, _, _, _, rfl⟩
theorem RatAt.tch {w w' : World} {g : Nat} {a b : Int} (h : RatAt w g a b) {k : Nat} {cs : List Value} {T : TypeId} (hb : BlkAt w k cs T) (hn : NoW cs) (ht : Tch [k] w w') (hne : g ≠ k) : RatAt w' g a b := by
  obtain ⟨va, xs, vb, ys, hB, ⟨h1, h2, h3⟩, h4, h5, h6⟩ := h
  exact ⟨va, xs, vb, ys, hB.tch ht (by simpa using hne), ⟨h1.tch hb hn ht, h2, h3⟩, h4.tch hb hn ht, h5, h6⟩
theorem W_ok {w : World} {v : Value} {xs : List Nat} (h : IsW w v xs) : okW xs := by obtain ⟨_, _, _, _, _, _, _, h⟩ := h; exact h
/-- words that tell 1 -/
theorem one_words {xs : List Nat} (ht : trimW xs) (hv : valW xs = 1) : xs = [1] := by
  have hl : xs.length ≤ 1 := trimW_len ht 1 (by rw [hv]; decide)
  match xs, hl with
  | [], _ => simp [valW] at hv
  | [x], _ => simp [valW] at hv; rw [hv]
theorem cell0 {w : World} {a : Option Addr} {n c x : Nat} {xs : List Nat} (h : IsW w (.slice a n c) xs) (hx : xs = [x]) : ∃ p, a = some p ∧ n = 1 ∧ w.cell? p = some (.int .u32 (x : Int)) := by
  obtain ⟨a', c', e, h1, h2, h3, h4, h5⟩ := h
  subst hx
  cases e
  cases a with
  | none => exact absurd (h3 rfl) (by simp)
  | some p =>
    refine ⟨p, rfl, rfl, ?_⟩
    have := h4 p rfl 0 (by simp)
    rw [addr0] at this
    simpa using this
theorem not_one {w : World} {a : Option Addr} {n c : Nat} {xs : List Nat} (h : IsW w (.slice a n c) xs) (h0 : 0 < valW xs) (h1 : valW xs ≠ 1) : n ≠ 1 ∨ ∃ p x, a = some p ∧ n = 1 ∧ x ≠ 1 ∧ xs = [x] ∧ w.cell? p = some (.int .u32 ((x : Nat) : Int)) := by
  have hl : n = xs.length := by obtain ⟨a', c', e, _⟩ := h; cases e; rfl
  by_cases h2 : xs.length = 1
  · right
    match xs, h2 with
    | [x], _ =>
      obtain ⟨p, h3, h4, h5⟩ := cell0 h rfl
      exact ⟨p, x, h3, h4, by simpa [valW] using h1, rfl, h5⟩
  · left; omega
theorem len_pos {w : World} {a : Option Addr} {n c : Nat} {xs : List Nat} (h : IsW w (.slice a n c) xs) (h0 : 0 < valW xs) : 0 < n := by
  have hl : n = xs.length := by obtain ⟨a', c', e, _⟩ := h; cases e; rfl
  rcases Nat.eq_zero_or_pos xs.length with h1 | h1
  · have : xs = [] := List.eq_nil_of_length_eq_zero h1
    subst this
    simp [valW] at h0
  · omega
theorem len_zero {w : World} {a : Option Addr} {n c : Nat} {xs : List Nat} (h : IsW w (.slice a n c) xs) (ht : trimW xs) (h0 : valW xs = 0) : n = 0 := by
  have hl : n = xs.length := by obtain ⟨a', c', e, _⟩ := h; cases e; rfl
  have := (trim_pos ht (W_ok h) h0).1
  omega
set_option maxHeartbeats 4000000 in
set_option maxRecDepth 100000 in
theorem den_z (g : Nat) (a b : Int) (w : World) (h : RatAt w g a b) (hb : b ≠ 0) :
    Calls Tryd.prog 68 #[.pointer (some ⟨g, 0, none⟩)] w fun e w' => e = .returned (.pointer (some ⟨g, 2, none⟩)) ∧ w' = w := by
  obtain ⟨va, xs, vb, ys, hB, _, h4, h5, h6⟩ := h
  obtain ⟨lb, nb, cb, rfl⟩ := h4.sliceB
  have hp := len_pos h4 (by rw [h6]; omega)
  have c3 := hB.cell (i := 3) rfl
  have hne : ((nb : Int) == 0) = false := by simp; omega
  clear hB h4 h5 h6 hb hp
  go_enter Tryd.func68, Tryd.ntmps68
  go_wp2_with fail
  go_ret
  exact ⟨rfl, rfl⟩
theorem gcd_abs (p q : Int) : Nat.gcd p.natAbs q.natAbs = Int.gcd p q := rfl
theorem numL_abs (p q : Int) : (numL p q).natAbs = p.natAbs / Int.gcd p q := by
  unfold numL
  have h : (Int.gcd p q : Int) ∣ p := Int.gcd_dvd_left ..
  rw [Int.natAbs_ediv_of_dvd h]
  simp
theorem numL_neg {p q : Int} (hq : 0 < q) : decide (numL p q < 0) = decide (p < 0) := by
  have e := (low_mul (n := p) (d := q)).1
  have hg : (0 : Int) < Int.gcd p q := by have := gcd_pos (n := p) hq; omega
  rw [decide_eq_decide]
  constructor
  · intro h
    rw [e]
    exact Int.mul_neg_of_pos_of_neg hg h
  · intro h
    rcases Int.lt_or_le (numL p q) 0 with h1 | h1
    · exact h1
    · have := Int.mul_nonneg (Int.le_of_lt hg) h1
      omega
theorem denL_abs (p q : Int) : (denL p q).natAbs = q.natAbs / Int.gcd p q := by
  unfold denL
  have h : (Int.gcd p q : Int) ∣ q := Int.gcd_dvd_right ..
  rw [Int.natAbs_ediv_of_dvd h]
  simp
theorem low_zero {q : Int} (hq : 0 < q) : numL 0 q = 0 ∧ denL 0 q = 1 := by
  have := low_eq (n := 0) (d := q) (n' := 0) (d' := 1) hq (by omega) (by simp)
  rw [this.1, this.2]
  exact low_of_cop (by simp)
set_option maxHeartbeats 16000000 in
set_option maxRecDepth 100000 in
theorem norm_0 (g : Nat) (p q : Int) (w : World) (h : RatAt w g p q) (hq : 0 < q) (hp1 : -4611686018427387903 ≤ p) (hp2 : p ≤ 4611686018427387903) (hq2 : q ≤ 4611686018427387903) (hp : p = 0) :
    Calls Tryd.prog 84 #[.pointer (some ⟨g, 0, none⟩)] w fun e w' => e = .returned (.pointer (some ⟨g, 0, none⟩)) ∧ RatAt w' g (numL p q) (denL p q) ∧ Tch [g] w w' := by
  subst hp
  rw [(low_zero hq).1, (low_zero hq).2]
  obtain ⟨va, xs, vb, ys, hB, ⟨x1, x2, x3⟩, y1, y2, y3⟩ := h
  obtain ⟨la, na, ca, rfl⟩ := x1.sliceB
  obtain ⟨lb, nb, cb, rfl⟩ := y1.sliceB
  have hqn : decide (q < 0) = false := decide_eq_false (by omega)
  rw [hqn] at hB
  have c0 := hB.cell (i := 0) rfl
  have c1 := hB.cell (i := 1) rfl
  have c2 := hB.cell (i := 2) rfl
  have c3 := hB.cell (i := 3) rfl
  have hnb := len_pos y1 (by rw [y3]; omega)
  have hnb' : ((nb : Int) == 0) = false := by simp; omega
  have hna := len_zero x1 x2 (by rw [x3]; rfl)
  subst hna
  have HS := Hid.mk (setInt64_z g 2 _ _ 1 w hB (RatV.noW ⟨_, _, _, _, _, _, _, _, rfl⟩) ⟨_, rfl⟩ ⟨_, _, _, rfl⟩ (by omega) (by omega))
  have HX1 := Hid.mk x1
  have HX2 := Hid.mk x2
  have HX3 := Hid.mk x3
  have HB := Hid.mk hB
  clear x1 x2 x3 y1 y2 y3 hB hq hp1 hp2 hq2 hnb hqn
  simp only [Int.lt_irrefl, decide_false] at c0 HB HS
  go_enter Tryd.func84, Tryd.ntmps84
  go_wp2_with fail
  with_reducible refine HS.out.mono ?_
  rintro e w1 ⟨rfl, hO⟩
  have HO := Hid.mk hO
  clear hO
  go_wp2_with fail
  go_ret
  refine ⟨rfl, ?_, HO.out.1⟩
  obtain ⟨ht, v1, zs, h1, h2, h3, h4⟩ := HO.out
  exact ⟨_, xs, v1, zs, h4, ⟨HX1.out.tch HB.out (RatV.noW ⟨_, _, _, _, _, _, _, _, rfl⟩) ht, HX2.out, HX3.out⟩, h1, h2, h3⟩
set_option maxHeartbeats 16000000 in
set_option maxRecDepth 100000 in
theorem norm_1 (g : Nat) (p q : Int) (w : World) (h : RatAt w g p q) (hq : 0 < q) (hp1 : -4611686018427387903 ≤ p) (hp2 : p ≤ 4611686018427387903) (hq2 : q ≤ 4611686018427387903) (hp : p ≠ 0) (hq1 : q = 1) :
    Calls Tryd.prog 84 #[.pointer (some ⟨g, 0, none⟩)] w fun e w' => e = .returned (.pointer (some ⟨g, 0, none⟩)) ∧ RatAt w' g (numL p q) (denL p q) ∧ Tch [g] w w' := by
  have hlo := low_of_cop (a := p) (b := q) (by rw [hq1]; simp)
  rw [hlo.1, hlo.2]
  have HR := Hid.mk h
  obtain ⟨va, xs, vb, ys, hB, ⟨x1, x2, x3⟩, y1, y2, y3⟩ := h
  obtain ⟨la, na, ca, rfl⟩ := x1.sliceB
  obtain ⟨lb, nb, cb, rfl⟩ := y1.sliceB
  have hqn : decide (q < 0) = false := decide_eq_false (by omega)
  rw [hqn] at hB
  have c0 := hB.cell (i := 0) rfl
  have c1 := hB.cell (i := 1) rfl
  have c2 := hB.cell (i := 2) rfl
  have c3 := hB.cell (i := 3) rfl
  have hnb := len_pos y1 (by rw [y3]; omega)
  have hnb' : ((nb : Int) == 0) = false := by simp; omega
  obtain ⟨pp, rfl, rfl, hcc⟩ := cell0 y1 (one_words y2 (by rw [y3, hq1]; rfl))
  have hna := len_pos x1 (by rw [x3]; omega)
  have hna' : ((na : Int) == 0) = false := by simp; omega
  clear x1 x2 x3 y1 y2 y3 hB hq hp1 hp2 hq2 hnb hqn hlo hp hna hq1
  go_enter Tryd.func84, Tryd.ntmps84
  go_wp2_with fail
  go_ret
  exact ⟨rfl, HR.out, Tch.refl _ _⟩
set_option maxHeartbeats 16000000 in
set_option maxRecDepth 100000 in
theorem norm_2 (g : Nat) (p q : Int) (w : World) (h : RatAt w g p q) (hq : 0 < q) (hp1 : -4611686018427387903 ≤ p) (hp2 : p ≤ 4611686018427387903) (hq2 : q ≤ 4611686018427387903) (hp : p ≠ 0) (hq1 : q ≠ 1) :
    Calls Tryd.prog 84 #[.pointer (some ⟨g, 0, none⟩)] w fun e w' => e = .returned (.pointer (some ⟨g, 0, none⟩)) ∧ RatAt w' g (numL p q) (denL p q) ∧ Tch [g] w w' := by
  have HR := Hid.mk h
  obtain ⟨va, xs, vb, ys, hB, ⟨x1, x2, x3⟩, y1, y2, y3⟩ := h
  obtain ⟨la, na, ca, rfl⟩ := x1.sliceB
  obtain ⟨lb, nb, cb, rfl⟩ := y1.sliceB
  have hqn : decide (q < 0) = false := decide_eq_false (by omega)
  rw [hqn] at hB
  have c0 := hB.cell (i := 0) rfl
  have c1 := hB.cell (i := 1) rfl
  have c2 := hB.cell (i := 2) rfl
  have c3 := hB.cell (i := 3) rfl
  have hnb := len_pos y1 (by rw [y3]; omega)
  have hnb' : ((nb : Int) == 0) = false := by simp; omega
  have hna := len_pos x1 (by rw [x3]; omega)
  have hna' : ((na : Int) == 0) = false := by simp; omega
  have hxs : valW xs < 2 ^ 62 := by rw [x3]; omega
  have hys : valW ys < 2 ^ 62 := by rw [y3]; omega
  have hCM := common_any _ _ xs ys w.drew x1 y1 x2 y2 hxs hys (by rw [y3]; omega)
  rw [x3, y3, gcd_abs] at hCM
  have HCM := Hid.mk hCM
  have HG0 := Hid.mk (gcd_pos (n := p) hq)
  have hdvp : Int.gcd p q ≤ p.natAbs := Nat.gcd_le_left _ (by omega)
  have hdvq : Int.gcd p q ≤ q.natAbs := Nat.gcd_le_right _ (by omega)
  have HDP := Hid.mk (fun W vg zs (hb : Below w.heap.size w W) (hz : IsW W vg zs) (ht : trimW zs) (hv : valW zs = Int.gcd p q) => div_any _ vg xs zs W (x1.below hb) hz x2 ht hxs (by omega) (by rw [hv]; exact gcd_pos hq) (by rw [hv, x3]; exact hdvp))
  have HDQ := Hid.mk (fun W vg zs (hb : Below w.heap.size w W) (hz : IsW W vg zs) (ht : trimW zs) (hv : valW zs = Int.gcd p q) => div_any _ vg ys zs W (y1.below hb) hz y2 ht hys (by omega) (by rw [hv]; exact gcd_pos hq) (by rw [hv, y3]; exact hdvq))
  have HVP := Hid.mk x3
  have HVQ := Hid.mk y3
  have HB := Hid.mk hB
  have hd1 := numL_neg (p := p) hq
  have hd2 : decide (denL p q < 0) = false := decide_eq_false (by have := denL_pos (n := p) hq; omega)
  have HFIN := Hid.mk (fun (v1 v3 : Value) W (h : BlkAt W g [.bool (decide (p < 0)), v1, .bool false, v3] 70) => (show BlkAt W g [.bool (decide (numL p q < 0)), v1, .bool (decide (denL p q < 0)), v3] 70 by rw [hd1, hd2]; exact h))
  have hyn := not_one y1 (by rw [y3]; omega) (by rw [y3]; omega)
  have hS0 : w.drew.cell? ⟨g, 1, none⟩ = some (.slice la na ca) ∧ w.drew.cell? ⟨g, 3, none⟩ = some (.slice lb nb cb) := ⟨c1, c3⟩
  clear hCM hxs hys hdvq hd1 hd2 x1 y1 hna hnb hB
  rcases hyn with hn | ⟨pp, yw, rfl, rfl, hyw, -, hcy⟩
  · have hn' : ((nb : Int) == 1) = false := by simp; omega
    clear hn
    clear x2 x3 y2 y3 hq hp1 hp2 hq2 hqn hp hq1 hdvp
    go_enter Tryd.func84, Tryd.ntmps84
    go_wp2_with fail
    go_region_held3 (fun w' => w'.cell? ⟨g, 1, none⟩ = some (.slice la na ca) ∧ w'.cell? ⟨g, 3, none⟩ = some (.slice lb nb cb)) (first | exact hS0 | exact hS1) (first
      | (go_at_call 92; with_reducible refine HCM.out.mono ?_; rintro e w1 ⟨vg, zs, rfl, z1, z2, z3, z4, hb1⟩
         have hS1 : w1.cell? ⟨g, 1, none⟩ = some (.slice la na ca) ∧ w1.cell? ⟨g, 3, none⟩ = some (.slice lb nb cb) := ⟨cell_kept hb1 hS0.1, cell_kept hb1 hS0.2⟩
         have HZ1 := Hid.mk z1
         have HZ2 := Hid.mk z2
         have HZ3 := Hid.mk z3
         have HB1 := Hid.mk (bl2 (drBw1 w) hb1)
         clear z1 z2 z3 z4 hb1 HCM))
    obtain ⟨lg, ng, cg, rfl⟩ := HZ1.out.sliceB
    have e0 := cell_kept HB1.out c0
    have e1 := cell_kept HB1.out c1
    have e3 := cell_kept HB1.out c3
    by_cases hG : Int.gcd p q = 1
    · obtain ⟨pg, rfl, rfl, hcg⟩ := cell0 HZ1.out (one_words HZ3.out (by rw [HZ2.out]; exact hG))
      have HRr := Hid.mk (show RatAt w1 g (numL p q) (denL p q) by rw [(low_of_cop hG).1, (low_of_cop hG).2]; exact HR.out.kept HB1.out)
      clear hG HDP HDQ HFIN
      go_wp2_with fail
      go_ret
      exact ⟨rfl, HRr.out, Tch.of HB1.out⟩
    · have hg0 : 0 < Int.gcd p q := HG0.out
      have HD1 := Hid.mk (HDP.out w1 _ zs HB1.out HZ1.out HZ3.out HZ2.out)
      have HD2 := Hid.mk (fun W hb => HDQ.out W _ zs (bl2 HB1.out hb) (HZ1.out.below hb) HZ3.out HZ2.out)
      have hno := not_one HZ1.out (by rw [HZ2.out]; exact hg0) (by rw [HZ2.out]; exact hG)
      clear hG hg0 HDP HDQ
      rcases hno with hn1 | ⟨pg, zg, rfl, rfl, hzg, -, hcg⟩
      · have hn1' : ((ng : Int) == 1) = false := by simp; omega
        clear hn1
        go_wp2_with fail
        with_reducible refine HD1.out.mono ?_
        rintro e w2 ⟨v1, v2, us, rfl, u1, u2, u3, hb2⟩
        have HU1 := Hid.mk u1
        have HU2 := Hid.mk u2
        have HU3 := Hid.mk u3
        have HB2 := Hid.mk (bl2 HB1.out hb2)
        have HB12 := Hid.mk hb2
        have e5 := cell_kept hb2 e3
        clear u1 u2 u3 hb2 e0 e1 e3 HD1
        go_wp2_with fail
        with_reducible refine (HD2.out _ HB12.out).mono ?_
        rintro e w3 ⟨v3, v4, ts, rfl, t1, t2, t3, hb3⟩
        have HT1 := Hid.mk t1
        have HT2 := Hid.mk t2
        have HT3 := Hid.mk t3
        have HB3 := Hid.mk (bl2 HB2.out hb3)
        have HU1' := Hid.mk (HU1.out.below hb3)
        clear t1 t2 t3 hb3 e5 HD2
        obtain ⟨s1, m1, k1, rfl⟩ := HU1.out.sliceB
        obtain ⟨s3, m3, k3, rfl⟩ := HT1.out.sliceB
        have hK := HB.out.kept HB3.out
        have f1 := hK.cell (i := 1) rfl
        have g1 := hK.free 1
        have hK1 := hK.set 1 (.slice s1 m1 k1)
        have f3 := hK1.cell (i := 3) rfl
        have g3 := hK1.free 3
        have HK := Hid.mk hK
        have HK2 := Hid.mk (hK1.set 3 (.slice s3 m3 k3))
        clear hK hK1
        go_wp2_with fail
        go_ret
        have ht : Tch [g] w3 ((w3.setCell ⟨g, 1, none⟩ (.slice s1 m1 k1)).setCell ⟨g, 3, none⟩ (.slice s3 m3 k3)) := ((Tch.refl [g] w3).setK (by simp) _ _).setK (by simp) _ _
        exact ⟨rfl, ⟨_, us, _, ts, HFIN.out _ _ _ HK2.out, ⟨HU1'.out.tch HK.out (RatV.noW ⟨_, _, _, _, _, _, _, _, rfl⟩) ht, HU3.out, by rw [HU2.out, HZ2.out, HVP.out]; exact (numL_abs p q).symm⟩, HT1.out.tch HK.out (RatV.noW ⟨_, _, _, _, _, _, _, _, rfl⟩) ht, HT3.out, by rw [HT2.out, HZ2.out, HVQ.out]; exact (denL_abs p q).symm⟩, (Tch.of HB3.out).trans ht⟩
      · have hzg' : ((zg : Int) == 1) = false := by simp; omega
        clear hzg
        go_wp2_with fail
        with_reducible refine HD1.out.mono ?_
        rintro e w2 ⟨v1, v2, us, rfl, u1, u2, u3, hb2⟩
        have HU1 := Hid.mk u1
        have HU2 := Hid.mk u2
        have HU3 := Hid.mk u3
        have HB2 := Hid.mk (bl2 HB1.out hb2)
        have HB12 := Hid.mk hb2
        have e5 := cell_kept hb2 e3
        clear u1 u2 u3 hb2 e0 e1 e3 HD1
        go_wp2_with fail
        with_reducible refine (HD2.out _ HB12.out).mono ?_
        rintro e w3 ⟨v3, v4, ts, rfl, t1, t2, t3, hb3⟩
        have HT1 := Hid.mk t1
        have HT2 := Hid.mk t2
        have HT3 := Hid.mk t3
        have HB3 := Hid.mk (bl2 HB2.out hb3)
        have HU1' := Hid.mk (HU1.out.below hb3)
        clear t1 t2 t3 hb3 e5 HD2
        obtain ⟨s1, m1, k1, rfl⟩ := HU1.out.sliceB
        obtain ⟨s3, m3, k3, rfl⟩ := HT1.out.sliceB
        have hK := HB.out.kept HB3.out
        have f1 := hK.cell (i := 1) rfl
        have g1 := hK.free 1
        have hK1 := hK.set 1 (.slice s1 m1 k1)
        have f3 := hK1.cell (i := 3) rfl
        have g3 := hK1.free 3
        have HK := Hid.mk hK
        have HK2 := Hid.mk (hK1.set 3 (.slice s3 m3 k3))
        clear hK hK1
        go_wp2_with fail
        go_ret
        have ht : Tch [g] w3 ((w3.setCell ⟨g, 1, none⟩ (.slice s1 m1 k1)).setCell ⟨g, 3, none⟩ (.slice s3 m3 k3)) := ((Tch.refl [g] w3).setK (by simp) _ _).setK (by simp) _ _
        exact ⟨rfl, ⟨_, us, _, ts, HFIN.out _ _ _ HK2.out, ⟨HU1'.out.tch HK.out (RatV.noW ⟨_, _, _, _, _, _, _, _, rfl⟩) ht, HU3.out, by rw [HU2.out, HZ2.out, HVP.out]; exact (numL_abs p q).symm⟩, HT1.out.tch HK.out (RatV.noW ⟨_, _, _, _, _, _, _, _, rfl⟩) ht, HT3.out, by rw [HT2.out, HZ2.out, HVQ.out]; exact (denL_abs p q).symm⟩, (Tch.of HB3.out).trans ht⟩
  · have hyw' : ((yw : Int) == 1) = false := by simp; omega
    clear hyw
    clear x2 x3 y2 y3 hq hp1 hp2 hq2 hqn hp hq1 hdvp
    go_enter Tryd.func84, Tryd.ntmps84
    go_wp2_with fail
    go_region_held3 (fun w' => w'.cell? ⟨g, 1, none⟩ = some (.slice la na ca) ∧ w'.cell? ⟨g, 3, none⟩ = some (.slice (some pp) 1 cb)) (first | exact hS0 | exact hS1) (first
      | (go_at_call 92; with_reducible refine HCM.out.mono ?_; rintro e w1 ⟨vg, zs, rfl, z1, z2, z3, z4, hb1⟩
         have hS1 : w1.cell? ⟨g, 1, none⟩ = some (.slice la na ca) ∧ w1.cell? ⟨g, 3, none⟩ = some (.slice (some pp) 1 cb) := ⟨cell_kept hb1 hS0.1, cell_kept hb1 hS0.2⟩
         have HZ1 := Hid.mk z1
         have HZ2 := Hid.mk z2
         have HZ3 := Hid.mk z3
         have HB1 := Hid.mk (bl2 (drBw1 w) hb1)
         clear z1 z2 z3 z4 hb1 HCM))
    obtain ⟨lg, ng, cg, rfl⟩ := HZ1.out.sliceB
    have e0 := cell_kept HB1.out c0
    have e1 := cell_kept HB1.out c1
    have e3 := cell_kept HB1.out c3
    by_cases hG : Int.gcd p q = 1
    · obtain ⟨pg, rfl, rfl, hcg⟩ := cell0 HZ1.out (one_words HZ3.out (by rw [HZ2.out]; exact hG))
      have HRr := Hid.mk (show RatAt w1 g (numL p q) (denL p q) by rw [(low_of_cop hG).1, (low_of_cop hG).2]; exact HR.out.kept HB1.out)
      clear hG HDP HDQ HFIN
      go_wp2_with fail
      go_ret
      exact ⟨rfl, HRr.out, Tch.of HB1.out⟩
    · have hg0 : 0 < Int.gcd p q := HG0.out
      have HD1 := Hid.mk (HDP.out w1 _ zs HB1.out HZ1.out HZ3.out HZ2.out)
      have HD2 := Hid.mk (fun W hb => HDQ.out W _ zs (bl2 HB1.out hb) (HZ1.out.below hb) HZ3.out HZ2.out)
      have hno := not_one HZ1.out (by rw [HZ2.out]; exact hg0) (by rw [HZ2.out]; exact hG)
      clear hG hg0 HDP HDQ
      rcases hno with hn1 | ⟨pg, zg, rfl, rfl, hzg, -, hcg⟩
      · have hn1' : ((ng : Int) == 1) = false := by simp; omega
        clear hn1
        go_wp2_with fail
        with_reducible refine HD1.out.mono ?_
        rintro e w2 ⟨v1, v2, us, rfl, u1, u2, u3, hb2⟩
        have HU1 := Hid.mk u1
        have HU2 := Hid.mk u2
        have HU3 := Hid.mk u3
        have HB2 := Hid.mk (bl2 HB1.out hb2)
        have HB12 := Hid.mk hb2
        have e5 := cell_kept hb2 e3
        clear u1 u2 u3 hb2 e0 e1 e3 HD1
        go_wp2_with fail
        with_reducible refine (HD2.out _ HB12.out).mono ?_
        rintro e w3 ⟨v3, v4, ts, rfl, t1, t2, t3, hb3⟩
        have HT1 := Hid.mk t1
        have HT2 := Hid.mk t2
        have HT3 := Hid.mk t3
        have HB3 := Hid.mk (bl2 HB2.out hb3)
        have HU1' := Hid.mk (HU1.out.below hb3)
        clear t1 t2 t3 hb3 e5 HD2
        obtain ⟨s1, m1, k1, rfl⟩ := HU1.out.sliceB
        obtain ⟨s3, m3, k3, rfl⟩ := HT1.out.sliceB
        have hK := HB.out.kept HB3.out
        have f1 := hK.cell (i := 1) rfl
        have g1 := hK.free 1
        have hK1 := hK.set 1 (.slice s1 m1 k1)
        have f3 := hK1.cell (i := 3) rfl
        have g3 := hK1.free 3
        have HK := Hid.mk hK
        have HK2 := Hid.mk (hK1.set 3 (.slice s3 m3 k3))
        clear hK hK1
        go_wp2_with fail
        go_ret
        have ht : Tch [g] w3 ((w3.setCell ⟨g, 1, none⟩ (.slice s1 m1 k1)).setCell ⟨g, 3, none⟩ (.slice s3 m3 k3)) := ((Tch.refl [g] w3).setK (by simp) _ _).setK (by simp) _ _
        exact ⟨rfl, ⟨_, us, _, ts, HFIN.out _ _ _ HK2.out, ⟨HU1'.out.tch HK.out (RatV.noW ⟨_, _, _, _, _, _, _, _, rfl⟩) ht, HU3.out, by rw [HU2.out, HZ2.out, HVP.out]; exact (numL_abs p q).symm⟩, HT1.out.tch HK.out (RatV.noW ⟨_, _, _, _, _, _, _, _, rfl⟩) ht, HT3.out, by rw [HT2.out, HZ2.out, HVQ.out]; exact (denL_abs p q).symm⟩, (Tch.of HB3.out).trans ht⟩
      · have hzg' : ((zg : Int) == 1) = false := by simp; omega
        clear hzg
        go_wp2_with fail
        with_reducible refine HD1.out.mono ?_
        rintro e w2 ⟨v1, v2, us, rfl, u1, u2, u3, hb2⟩
        have HU1 := Hid.mk u1
        have HU2 := Hid.mk u2
        have HU3 := Hid.mk u3
        have HB2 := Hid.mk (bl2 HB1.out hb2)
        have HB12 := Hid.mk hb2
        have e5 := cell_kept hb2 e3
        clear u1 u2 u3 hb2 e0 e1 e3 HD1
        go_wp2_with fail
        with_reducible refine (HD2.out _ HB12.out).mono ?_
        rintro e w3 ⟨v3, v4, ts, rfl, t1, t2, t3, hb3⟩
        have HT1 := Hid.mk t1
        have HT2 := Hid.mk t2
        have HT3 := Hid.mk t3
        have HB3 := Hid.mk (bl2 HB2.out hb3)
        have HU1' := Hid.mk (HU1.out.below hb3)
        clear t1 t2 t3 hb3 e5 HD2
        obtain ⟨s1, m1, k1, rfl⟩ := HU1.out.sliceB
        obtain ⟨s3, m3, k3, rfl⟩ := HT1.out.sliceB
        have hK := HB.out.kept HB3.out
        have f1 := hK.cell (i := 1) rfl
        have g1 := hK.free 1
        have hK1 := hK.set 1 (.slice s1 m1 k1)
        have f3 := hK1.cell (i := 3) rfl
        have g3 := hK1.free 3
        have HK := Hid.mk hK
        have HK2 := Hid.mk (hK1.set 3 (.slice s3 m3 k3))
        clear hK hK1
        go_wp2_with fail
        go_ret
        have ht : Tch [g] w3 ((w3.setCell ⟨g, 1, none⟩ (.slice s1 m1 k1)).setCell ⟨g, 3, none⟩ (.slice s3 m3 k3)) := ((Tch.refl [g] w3).setK (by simp) _ _).setK (by simp) _ _
        exact ⟨rfl, ⟨_, us, _, ts, HFIN.out _ _ _ HK2.out, ⟨HU1'.out.tch HK.out (RatV.noW ⟨_, _, _, _, _, _, _, _, rfl⟩) ht, HU3.out, by rw [HU2.out, HZ2.out, HVP.out]; exact (numL_abs p q).symm⟩, HT1.out.tch HK.out (RatV.noW ⟨_, _, _, _, _, _, _, _, rfl⟩) ht, HT3.out, by rw [HT2.out, HZ2.out, HVQ.out]; exact (denL_abs p q).symm⟩, (Tch.of HB3.out).trans ht⟩
theorem norm_pos (g : Nat) (p q : Int) (w : World) (h : RatAt w g p q) (hq : 0 < q) (hp1 : -4611686018427387903 ≤ p) (hp2 : p ≤ 4611686018427387903) (hq2 : q ≤ 4611686018427387903) :
    Calls Tryd.prog 84 #[.pointer (some ⟨g, 0, none⟩)] w fun e w' => e = .returned (.pointer (some ⟨g, 0, none⟩)) ∧ RatAt w' g (numL p q) (denL p q) ∧ Tch [g] w w' := by
  by_cases h0 : p = 0
  · exact norm_0 g p q w h hq hp1 hp2 hq2 h0
  · by_cases h1 : q = 1
    · exact norm_1 g p q w h hq hp1 hp2 hq2 h0 h1
    · exact norm_2 g p q w h hq hp1 hp2 hq2 h0 h1
end Ww
end Go.Proofs.YtgknolliicachaaDoor
