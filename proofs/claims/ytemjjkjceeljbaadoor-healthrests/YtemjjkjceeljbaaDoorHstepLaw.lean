/- The law HealthStep: any counters are checked, told and stepped as the document says, errors too. -/
import Derived.Test.YtemjjkjceeljbaaDoorHealthIs
import Derived.Test.YtemjjkjceeljbaaDoorRefHstep
namespace Go.Proofs.YtemjjkjceeljbaaDoor
open Go.ChangeShapes Go.WideShapes Go.ChangeAt Go.RowKit
namespace Bw
/-- block b holds these counters, and may be written -/
def HRow (w : World) (b : Nat) (h : Hl) : Prop := w.heap[b]? = some (.cells #[.int .i64 h.s, .int .i64 h.g, .int .i64 h.r] 23 (0, 0))
theorem HRow.lt {w : World} {b : Nat} {h : Hl} (q : HRow w b h) : b < w.heap.size := by
  rcases Nat.lt_or_ge b w.heap.size with x | x
  · exact x
  · unfold HRow at q; rw [Array.getElem?_eq_none x] at q; cases q
theorem HRow.box (w : World) (h : Hl) : HRow (w.alloc (hC h)) w.heap.size h := heap_alloc_new w _
theorem HRow.kept {w w' : World} {b : Nat} {h : Hl} (q : HRow w b h) (hb : Below w.heap.size w w') : HRow w' b h := (hb.block b q.lt).trans q
theorem HRow.at {w : World} {b : Nat} {h : Hl} (q : HRow w b h) : HAt w b h := by
  have c := fun j => cell_of_row w b j _ _ _ q
  exact ⟨c 0, c 1, c 2⟩
theorem HRow.other {w w' : World} {b b' : Nat} {h : Hl} (q : HRow w b h) (ht : Tch [b'] w w') (hne : b ≠ b') : HRow w' b h := (ht.block b q.lt (by simpa using hne)).trans q
set_option maxHeartbeats 16000000 in
set_option maxRecDepth 100000 in
theorem hstep_bad (hSt : StepIs) (hTe : StateIs) (hCk : CheckIs) (h : Hl) (p : Option Addr) (n c : Nat) (zs : List Int) (w : World) (hz : NumsH w p n zs) (ho : okB h = false) :
    Calls Tryd.prog 3 #[hV h, .slice p n c] w fun e w' => e = .returned (.bool true) ∧ Below w.heap.size w w' := by
  obtain ⟨s, g, r⟩ := h
  have hE : stepE ⟨s, g, r⟩ zs = 3 := by unfold stepE; rw [if_neg (by rw [ho]; decide)]
  have hA : stepA ⟨s, g, r⟩ zs = 0 := by unfold stepA; rw [hE]; rfl
  have hO : stepO ⟨s, g, r⟩ zs = zeroH := by unfold stepO; rw [hE]; rfl
  have hC3 : chkH ⟨s, g, r⟩ = 3 := by unfold chkH; rw [if_neg (by rw [ho]; decide)]
  have a1 := hSt ⟨s, g, r⟩ p n c zs _ (hz.kept (hbox w ⟨s, g, r⟩))
  rw [hE, hA, hO] at a1
  have a2 := fun W => hTe ⟨s, g, r⟩ W
  rw [if_neg (by rw [ho]; decide), hC3] at a2
  have a3 := fun W => checkHealth_any ⟨s, g, r⟩ W
  rw [hC3] at a3
  have a5 := fun W => hCk ⟨s, g, r⟩ W
  rw [hC3] at a5
  unfold zeroH at a1
  have hB0 := hbox w ⟨s, g, r⟩
  have HR0 := Hid.mk (HRow.box w ⟨s, g, r⟩)
  have HB0 := Hid.mk hB0
  have HN := Hid.mk (hz.kept hB0)
  have HA1 := Hid.mk a1
  have HA2 := Hid.mk a2
  have HA3 := Hid.mk a3
  have HA4 := Hid.mk (fun W (hb : Below w.heap.size w W) => well_any hSt hTe W (hz.2.2.2.kept hb))
  have HA5 := Hid.mk a5
  unfold hC at HR0 HB0 HN HA1
  unfold hV at HA1 HA2 HA3 HA5 ⊢
  simp only at HA1 HA2 HA3 HA5 ⊢
  clear hB0 a1 a2 a3 a5 hz
  clear hE hA hO hC3 ho hSt hTe hCk
  obtain ⟨m0, m1, m2⟩ := HR0.out.at
  simp only at m0 m1 m2
  go_enter Tryd.func3, Tryd.ntmps3
  go_wp2_with fail
  refine HA1.out.mono ?_
  rintro e w1 ⟨rfl, hb1⟩
  have hbx := hbox w1 ⟨0, 0, 0⟩
  have hb12 := bl2 hb1 hbx
  have HX2 := Hid.mk (HRow.box w1 ⟨0, 0, 0⟩)
  have HR2 := Hid.mk (HR0.out.kept hb12)
  have HN2 := Hid.mk (HN.out.kept hb12)
  have HB2 := Hid.mk (bl2 HB0.out hb12)
  have HNE := Hid.mk (show w.heap.size ≠ w1.heap.size by have h1 := HR0.out.lt; have h2 := hb1.size; omega)
  unfold hC at HX2 HR2 HN2 HB2
  obtain ⟨k0, k1, k2⟩ := HR2.out.at
  simp only at k0 k1 k2 HX2 HB2 HR2 HN2
  clear hb1 hbx hb12 HR0 HN HB0 m0 m1 m2
  go_wp2_with fail
  refine (HA2.out _).mono ?_
  rintro e w3 ⟨rfl, hb3⟩
  have HX3 := Hid.mk (HX2.out.kept hb3)
  have HR3 := Hid.mk (HR2.out.kept hb3)
  have HN3 := Hid.mk (HN2.out.kept hb3)
  have HB3 := Hid.mk (bl2 HB2.out hb3)
  obtain ⟨j0, j1, j2⟩ := HR3.out.at
  simp only at j0 j1 j2
  clear hb3 HX2 HR2 HN2 HB2 k0 k1 k2
  go_wp2_with fail
  refine (HA3.out _).mono ?_
  rintro e w4 ⟨rfl, hb4⟩
  have HX4 := Hid.mk (HX3.out.kept hb4)
  have HR4 := Hid.mk (HR3.out.kept hb4)
  have HN4 := Hid.mk (HN3.out.kept hb4)
  have HB4 := Hid.mk (bl2 HB3.out hb4)
  clear hb4 HX3 HR3 HN3 HB3 j0 j1 j2
  go_wp2_with fail
  refine (HA4.out _ HB4.out).mono ?_
  rintro e w5 ⟨rfl, hb5⟩
  have HX5 := Hid.mk (HX4.out.kept hb5)
  have HR5 := Hid.mk (HR4.out.kept hb5)
  have HN5 := Hid.mk (HN4.out.kept hb5)
  have HB5 := Hid.mk (bl2 HB4.out hb5)
  obtain ⟨k0, k1, k2⟩ := HR5.out.at
  simp only at k0 k1 k2
  clear hb5 HX4 HR4 HN4 HB4
  go_wp2_with fail
  refine (HA5.out _).mono ?_
  rintro e w6 ⟨rfl, hb6⟩
  have HX6 := Hid.mk (HX5.out.kept hb6)
  have HR6 := Hid.mk (HR5.out.kept hb6)
  have HN6 := Hid.mk (HN5.out.kept hb6)
  have HB6 := Hid.mk (bl2 HB5.out hb6)
  clear hb6 HX5 HR5 HN5 HB5 k0 k1 k2
  obtain ⟨x0, x1, x2⟩ := HX6.out.at
  simp only at x0 x1 x2
  go_wp2_with fail
  go_ret
  exact ⟨rfl, HB6.out⟩
set_option maxHeartbeats 16000000 in
set_option maxRecDepth 100000 in
theorem hstep_many (hSt : StepIs) (hTe : StateIs) (hCk : CheckIs) (h : Hl) (p : Option Addr) (n c : Nat) (zs : List Int) (w : World) (hz : NumsH w p n zs) (ho : okB h = true) (hn : 1000 < n) :
    Calls Tryd.prog 3 #[hV h, .slice p n c] w fun e w' => e = .returned (.bool true) ∧ Below w.heap.size w w' := by
  obtain ⟨s, g, r⟩ := h
  have hC0 : chkH ⟨s, g, r⟩ = 0 := by unfold chkH; rw [if_pos ho]
  have hE : stepE ⟨s, g, r⟩ zs = 2 := by unfold stepE; rw [if_pos ho, if_pos (by rw [hz.1]; exact hn)]
  have hA : stepA ⟨s, g, r⟩ zs = 0 := by unfold stepA; rw [hE]; rfl
  have hO : stepO ⟨s, g, r⟩ zs = zeroH := by unfold stepO; rw [hE]; rfl
  have a1 := hSt ⟨s, g, r⟩ p n c zs _ (hz.kept (hbox w ⟨s, g, r⟩))
  rw [hE, hA, hO] at a1
  have a2 := fun W => hTe ⟨s, g, r⟩ W
  rw [if_pos ho, hC0] at a2
  have a3 := fun W => checkHealth_any ⟨s, g, r⟩ W
  rw [hC0] at a3
  have a5 := fun W => hCk ⟨s, g, r⟩ W
  rw [hC0] at a5
  have a6 := fun W => stateOf_any ⟨s, g, r⟩ W
  have HA6 := Hid.mk a6
  unfold hV at HA6
  simp only at HA6
  clear a6
  generalize stateH ⟨s, g, r⟩ = st at *
  unfold zeroH at a1
  have hn2 : (1000 : Int) < (n : Int) := by omega
  have hB0 := hbox w ⟨s, g, r⟩
  have HR0 := Hid.mk (HRow.box w ⟨s, g, r⟩)
  have HB0 := Hid.mk hB0
  have HN := Hid.mk (hz.kept hB0)
  have HA1 := Hid.mk a1
  have HA2 := Hid.mk a2
  have HA3 := Hid.mk a3
  have HA4 := Hid.mk (fun W (hb : Below w.heap.size w W) => well_any hSt hTe W (hz.2.2.2.kept hb))
  have HA5 := Hid.mk a5
  unfold hC at HR0 HB0 HN HA1
  unfold hV at HA1 HA2 HA3 HA5 ⊢
  simp only at HA1 HA2 HA3 HA5 ⊢
  clear hB0 a1 a2 a3 a5 hz
  clear hE hA hO hC0 ho hSt hTe hCk
  obtain ⟨m0, m1, m2⟩ := HR0.out.at
  simp only at m0 m1 m2
  go_enter Tryd.func3, Tryd.ntmps3
  go_wp2_with fail
  refine HA1.out.mono ?_
  rintro e w1 ⟨rfl, hb1⟩
  have hbx := hbox w1 ⟨0, 0, 0⟩
  have hb12 := bl2 hb1 hbx
  have HX2 := Hid.mk (HRow.box w1 ⟨0, 0, 0⟩)
  have HR2 := Hid.mk (HR0.out.kept hb12)
  have HN2 := Hid.mk (HN.out.kept hb12)
  have HB2 := Hid.mk (bl2 HB0.out hb12)
  have HNE := Hid.mk (show w.heap.size ≠ w1.heap.size by have h1 := HR0.out.lt; have h2 := hb1.size; omega)
  unfold hC at HX2 HR2 HN2 HB2
  obtain ⟨k0, k1, k2⟩ := HR2.out.at
  simp only at k0 k1 k2 HX2 HB2 HR2 HN2
  clear hb1 hbx hb12 HR0 HN HB0 m0 m1 m2
  go_wp2_with fail
  refine (HA2.out _).mono ?_
  rintro e w3 ⟨rfl, hb3⟩
  have HX3 := Hid.mk (HX2.out.kept hb3)
  have HR3 := Hid.mk (HR2.out.kept hb3)
  have HN3 := Hid.mk (HN2.out.kept hb3)
  have HB3 := Hid.mk (bl2 HB2.out hb3)
  obtain ⟨j0, j1, j2⟩ := HR3.out.at
  simp only at j0 j1 j2
  clear hb3 HX2 HR2 HN2 HB2 k0 k1 k2
  go_wp2_with fail
  refine (HA3.out _).mono ?_
  rintro e w4 ⟨rfl, hb4⟩
  have HX4 := Hid.mk (HX3.out.kept hb4)
  have HR4 := Hid.mk (HR3.out.kept hb4)
  have HN4 := Hid.mk (HN3.out.kept hb4)
  have HB4 := Hid.mk (bl2 HB3.out hb4)
  clear hb4 HX3 HR3 HN3 HB3 j0 j1 j2
  go_wp2_with fail
  refine (HA4.out _ HB4.out).mono ?_
  rintro e w5 ⟨rfl, hb5⟩
  have HX5 := Hid.mk (HX4.out.kept hb5)
  have HR5 := Hid.mk (HR4.out.kept hb5)
  have HN5 := Hid.mk (HN4.out.kept hb5)
  have HB5 := Hid.mk (bl2 HB4.out hb5)
  obtain ⟨k0, k1, k2⟩ := HR5.out.at
  simp only at k0 k1 k2
  clear hb5 HX4 HR4 HN4 HB4
  go_wp2_with fail
  refine (HA5.out _).mono ?_
  rintro e w6 ⟨rfl, hb6⟩
  have HX6 := Hid.mk (HX5.out.kept hb6)
  have HR6 := Hid.mk (HR5.out.kept hb6)
  have HN6 := Hid.mk (HN5.out.kept hb6)
  have HB6 := Hid.mk (bl2 HB5.out hb6)
  clear hb6 HX5 HR5 HN5 HB5 k0 k1 k2
  obtain ⟨y0, y1, y2⟩ := HR6.out.at
  simp only at y0 y1 y2
  go_wp2_with fail
  refine (HA6.out _).mono ?_
  rintro e w7 ⟨rfl, hb7⟩
  have HX7 := Hid.mk (HX6.out.kept hb7)
  have HR7 := Hid.mk (HR6.out.kept hb7)
  have HN7 := Hid.mk (HN6.out.kept hb7)
  have HB7 := Hid.mk (bl2 HB6.out hb7)
  clear hb7 HX6 HR6 HN6 HB6 y0 y1 y2
  obtain ⟨x0, x1, x2⟩ := HX7.out.at
  simp only at x0 x1 x2
  go_wp2_with fail
  go_ret
  exact ⟨rfl, HB7.out⟩
set_option maxHeartbeats 16000000 in
set_option maxRecDepth 100000 in
theorem hstep_who (hSt : StepIs) (hTe : StateIs) (hCk : CheckIs) (h : Hl) (p : Option Addr) (n c : Nat) (zs : List Int) (w : World) (hz : NumsH w p n zs) (ho : okB h = true) (hn : n ≤ 1000) (hb : badK zs < n) :
    Calls Tryd.prog 3 #[hV h, .slice p n c] w fun e w' => e = .returned (.bool true) ∧ Below w.heap.size w w' := by
  have HOK := Hid.mk (fun k => runK_ok h zs ((okB_iff h).1 ho) k)
  obtain ⟨RK, hRK⟩ : ∃ RK : Nat → Hl, RK = runK h zs := ⟨_, rfl⟩
  have HRK0 := Hid.mk (show RK 0 = h by rw [hRK]; rfl)
  have HRKs := Hid.mk (show ∀ k, RK (k + 1) = stepH (RK k) (zs.getD k 0) by intro k; rw [hRK]; rfl)
  rw [← hRK] at HOK
  obtain ⟨s, g, r⟩ := h
  have hC0 : chkH ⟨s, g, r⟩ = 0 := by unfold chkH; rw [if_pos ho]
  have hE : stepE ⟨s, g, r⟩ zs = 8 := by unfold stepE; rw [if_pos ho, if_neg (by rw [hz.1]; omega), if_pos (by rw [hz.1]; exact hb)]
  have hA : stepA ⟨s, g, r⟩ zs = (badK zs : Int) := by unfold stepA; rw [hE]; rfl
  have hO : stepO ⟨s, g, r⟩ zs = zeroH := by unfold stepO; rw [hE]; rfl
  have a1 := hSt ⟨s, g, r⟩ p n c zs _ (hz.kept (hbox w ⟨s, g, r⟩))
  rw [hE, hA, hO] at a1
  have a2 := fun W => hTe ⟨s, g, r⟩ W
  rw [if_pos ho, hC0] at a2
  have a3 := fun W => checkHealth_any ⟨s, g, r⟩ W
  rw [hC0] at a3
  have a5 := fun W => hCk ⟨s, g, r⟩ W
  rw [hC0] at a5
  have a6 := fun W => stateOf_any ⟨s, g, r⟩ W
  have HA6 := Hid.mk a6
  unfold hV at HA6
  simp only at HA6
  clear a6
  generalize stateH ⟨s, g, r⟩ = st at *
  unfold zeroH at a1
  have hn2 : (n : Int) ≤ 1000 := by omega
  have HNw := Hid.mk hz
  have HBK := Hid.mk hb
  have hB0 := hbox w ⟨s, g, r⟩
  have HR0 := Hid.mk (HRow.box w ⟨s, g, r⟩)
  have HB0 := Hid.mk hB0
  have HN := Hid.mk (hz.kept hB0)
  have HA1 := Hid.mk a1
  have HA2 := Hid.mk a2
  have HA3 := Hid.mk a3
  have HA4 := Hid.mk (fun W (hb : Below w.heap.size w W) => well_any hSt hTe W (hz.2.2.2.kept hb))
  have HA5 := Hid.mk a5
  unfold hC at HR0 HB0 HN HA1
  unfold hV at HA1 HA2 HA3 HA5 ⊢
  simp only at HA1 HA2 HA3 HA5 ⊢
  clear hB0 a1 a2 a3 a5 hz
  clear hE hA hO hC0 ho hSt hTe hCk hRK hb
  obtain ⟨m0, m1, m2⟩ := HR0.out.at
  simp only at m0 m1 m2
  go_enter Tryd.func3, Tryd.ntmps3
  go_wp2_with fail
  refine HA1.out.mono ?_
  rintro e w1 ⟨rfl, hb1⟩
  have hbx := hbox w1 ⟨0, 0, 0⟩
  have hb12 := bl2 hb1 hbx
  have HX2 := Hid.mk (HRow.box w1 ⟨0, 0, 0⟩)
  have HR2 := Hid.mk (HR0.out.kept hb12)
  have HN2 := Hid.mk (HN.out.kept hb12)
  have HB2 := Hid.mk (bl2 HB0.out hb12)
  have HNE := Hid.mk (show w.heap.size ≠ w1.heap.size by have h1 := HR0.out.lt; have h2 := hb1.size; omega)
  unfold hC at HX2 HR2 HN2 HB2
  obtain ⟨k0, k1, k2⟩ := HR2.out.at
  simp only at k0 k1 k2 HX2 HB2 HR2 HN2
  clear hb1 hbx hb12 HR0 HN HB0 m0 m1 m2
  go_wp2_with fail
  refine (HA2.out _).mono ?_
  rintro e w3 ⟨rfl, hb3⟩
  have HX3 := Hid.mk (HX2.out.kept hb3)
  have HR3 := Hid.mk (HR2.out.kept hb3)
  have HN3 := Hid.mk (HN2.out.kept hb3)
  have HB3 := Hid.mk (bl2 HB2.out hb3)
  obtain ⟨j0, j1, j2⟩ := HR3.out.at
  simp only at j0 j1 j2
  clear hb3 HX2 HR2 HN2 HB2 k0 k1 k2
  go_wp2_with fail
  refine (HA3.out _).mono ?_
  rintro e w4 ⟨rfl, hb4⟩
  have HX4 := Hid.mk (HX3.out.kept hb4)
  have HR4 := Hid.mk (HR3.out.kept hb4)
  have HN4 := Hid.mk (HN3.out.kept hb4)
  have HB4 := Hid.mk (bl2 HB3.out hb4)
  clear hb4 HX3 HR3 HN3 HB3 j0 j1 j2
  go_wp2_with fail
  refine (HA4.out _ HB4.out).mono ?_
  rintro e w5 ⟨rfl, hb5⟩
  have HX5 := Hid.mk (HX4.out.kept hb5)
  have HR5 := Hid.mk (HR4.out.kept hb5)
  have HN5 := Hid.mk (HN4.out.kept hb5)
  have HB5 := Hid.mk (bl2 HB4.out hb5)
  obtain ⟨k0, k1, k2⟩ := HR5.out.at
  simp only at k0 k1 k2
  clear hb5 HX4 HR4 HN4 HB4
  go_wp2_with fail
  refine (HA5.out _).mono ?_
  rintro e w6 ⟨rfl, hb6⟩
  have HX6 := Hid.mk (HX5.out.kept hb6)
  have HR6 := Hid.mk (HR5.out.kept hb6)
  have HN6 := Hid.mk (HN5.out.kept hb6)
  have HB6 := Hid.mk (bl2 HB5.out hb6)
  clear hb6 HX5 HR5 HN5 HB5 k0 k1 k2
  obtain ⟨y0, y1, y2⟩ := HR6.out.at
  simp only at y0 y1 y2
  go_wp2_with fail
  refine (HA6.out _).mono ?_
  rintro e w7 ⟨rfl, hb7⟩
  have HX7 := Hid.mk (HX6.out.kept hb7)
  have HR7 := Hid.mk (HR6.out.kept hb7)
  have HN7 := Hid.mk (HN6.out.kept hb7)
  have HB7 := Hid.mk (bl2 HB6.out hb7)
  clear hb7 HX6 HR6 HN6 HB6 y0 y1 y2
  go_wp2_with fail
  go_loopw [84] (fun i wr => ∃ k : Nat, k ≤ badK zs ∧ i = .int .i64 k ∧ Hid (HRow wr w.heap.size (RK k)) ∧ Hid (HRow wr w1.heap.size ⟨0, 0, 0⟩) ∧ Hid (Below w.heap.size w wr)) (fun i _ => n - (intOf i).toNat)
  case atStart => exact ⟨0, Nat.zero_le _, rfl, by rw [HRK0.out]; exact HR7, HX7, HB7⟩
  case round =>
    clear HR7 HX7 HB7 HN7
    obtain ⟨k, hk, rfl, HR, HX, HB⟩ := hrel
    by_cases hkb0 : k < badK zs
    · have hlt : k < n := by have h1 := badK_le zs; have h2 := HNw.out.1; have h3 := HBK.out; omega
      have hlt' : (k : Int) < (n : Int) := by omega
      cases p with
      | none => exact absurd (HNw.out.2.1 rfl) (by omega)
      | some x =>
        have cz := cell_kept HB.out (HNw.out.2.2.1 x rfl k hlt)
        have hW : isW (zs.getD k 0) = true := by exact badK_before zs k (by have h1 := badK_le zs; have h2 := HNw.out.1; have h3 := HBK.out; omega)
        have a7 := fun W => stepHealth_any (RK k) (zs.getD k 0) W (HOK.out k) hW
        rw [← HRKs.out k] at a7
        have HRR := HR.out
        obtain ⟨h1, hh1⟩ : ∃ h1, h1 = RK k := ⟨_, rfl⟩
        obtain ⟨h2, hh2⟩ : ∃ h2, h2 = RK (k + 1) := ⟨_, rfl⟩
        rw [← hh1, ← hh2] at a7
        rw [← hh1] at HRR
        have HH2 := Hid.mk hh2
        clear hh1 hh2
        obtain ⟨s1, g1, r1⟩ := h1
        obtain ⟨s2, g2, r2⟩ := h2
        have HR1 := Hid.mk HRR
        obtain ⟨m0, m1, m2⟩ := HR1.out.at
        simp only at m0 m1 m2
        unfold hV at a7
        simp only at a7
        have HA7 := Hid.mk a7
        clear a7 HRR
        generalize zs.getD k 0 = z at *
        clear hW
        go_wp2_with fail
        refine (HA7.out _).mono ?_
        rintro e w8 ⟨rfl, hb8⟩
        have hbx := hbox w8 ⟨s2, g2, r2⟩
        have hb89 := bl2 hb8 hbx
        have hA9 := HR1.out.kept hb89
        have HX9 := Hid.mk (HX.out.kept hb89)
        have HB9 := Hid.mk (bl2 HB.out hb89)
        obtain ⟨y0, y1, y2⟩ := HAt.box w8 ⟨s2, g2, r2⟩
        unfold hC at hA9 HX9 HB9 y0 y1 y2
        unfold HRow at hA9
        simp only at hA9 y0 y1 y2
        clear hb8 hbx hb89 m0 m1 m2
        have kc0 := cell_of_row (w8.alloc (.cells #[.int .i64 s2, .int .i64 g2, .int .i64 r2] 23)) w.heap.size 0 _ _ _ hA9
        have kz0 := frozen_of_row (w8.alloc (.cells #[.int .i64 s2, .int .i64 g2, .int .i64 r2] 23)) w.heap.size 0 _ _ hA9
        have ks0 := heap_setCell_same (w8.alloc (.cells #[.int .i64 s2, .int .i64 g2, .int .i64 r2] 23)) w.heap.size 0 _ _ (.int .i64 s2) hA9
        simp only [List.setIfInBounds_toArray, List.set_cons_zero] at ks0
        simp at kc0
        have kc1 := cell_of_row ((w8.alloc (.cells #[.int .i64 s2, .int .i64 g2, .int .i64 r2] 23)).setCell ⟨w.heap.size, 0, none⟩ (.int .i64 s2)) w.heap.size 1 _ _ _ ks0
        have kz1 := frozen_of_row ((w8.alloc (.cells #[.int .i64 s2, .int .i64 g2, .int .i64 r2] 23)).setCell ⟨w.heap.size, 0, none⟩ (.int .i64 s2)) w.heap.size 1 _ _ ks0
        have ks1 := heap_setCell_same ((w8.alloc (.cells #[.int .i64 s2, .int .i64 g2, .int .i64 r2] 23)).setCell ⟨w.heap.size, 0, none⟩ (.int .i64 s2)) w.heap.size 1 _ _ (.int .i64 g2) ks0
        simp only [List.setIfInBounds_toArray, List.set_cons_zero, List.set_cons_succ] at ks1
        simp at kc1
        have kc2 := cell_of_row (((w8.alloc (.cells #[.int .i64 s2, .int .i64 g2, .int .i64 r2] 23)).setCell ⟨w.heap.size, 0, none⟩ (.int .i64 s2)).setCell ⟨w.heap.size, 1, none⟩ (.int .i64 g2)) w.heap.size 2 _ _ _ ks1
        have kz2 := frozen_of_row (((w8.alloc (.cells #[.int .i64 s2, .int .i64 g2, .int .i64 r2] 23)).setCell ⟨w.heap.size, 0, none⟩ (.int .i64 s2)).setCell ⟨w.heap.size, 1, none⟩ (.int .i64 g2)) w.heap.size 2 _ _ ks1
        have ks2 := heap_setCell_same (((w8.alloc (.cells #[.int .i64 s2, .int .i64 g2, .int .i64 r2] 23)).setCell ⟨w.heap.size, 0, none⟩ (.int .i64 s2)).setCell ⟨w.heap.size, 1, none⟩ (.int .i64 g2)) w.heap.size 2 _ _ (.int .i64 r2) ks1
        simp only [List.setIfInBounds_toArray, List.set_cons_zero, List.set_cons_succ] at ks2
        simp at kc2
        have hT : Tch [w.heap.size] (w8.alloc (.cells #[.int .i64 s2, .int .i64 g2, .int .i64 r2] 23)) ((((w8.alloc (.cells #[.int .i64 s2, .int .i64 g2, .int .i64 r2] 23)).setCell ⟨w.heap.size, 0, none⟩ (.int .i64 s2)).setCell ⟨w.heap.size, 1, none⟩ (.int .i64 g2)).setCell ⟨w.heap.size, 2, none⟩ (.int .i64 r2)) := ((((Tch.refl [w.heap.size] (w8.alloc (.cells #[.int .i64 s2, .int .i64 g2, .int .i64 r2] 23))).setK (by simp) _ _).setK (by simp) _ _).setK (by simp) _ _)
        have HRn := Hid.mk (show HRow ((((w8.alloc (.cells #[.int .i64 s2, .int .i64 g2, .int .i64 r2] 23)).setCell ⟨w.heap.size, 0, none⟩ (.int .i64 s2)).setCell ⟨w.heap.size, 1, none⟩ (.int .i64 g2)).setCell ⟨w.heap.size, 2, none⟩ (.int .i64 r2)) w.heap.size ⟨s2, g2, r2⟩ from ks2)
        have HXn := Hid.mk (HX9.out.other hT (fun e => HNE.out e.symm))
        have HBn := Hid.mk (Tch.below HB9.out hT (by simp) (Nat.le_refl _))
        rw [HH2.out] at HRn
        clear hT
        go_wp2_with fail
        go_roundw
        case rel => exact ⟨k + 1, by omega, by go_num, HRn, HXn, HBn⟩
        case measure => simp [intOf]; omega
    · have hkb : k = badK zs := by omega
      have hlt : k < n := by have h3 := HBK.out; omega
      have hlt' : (k : Int) < (n : Int) := by omega
      cases p with
      | none => exact absurd (HNw.out.2.1 rfl) (by omega)
      | some x =>
        have cz := cell_kept HB.out (HNw.out.2.2.1 x rfl k hlt)
        have hW : isW (zs.getD k 0) = false := by rw [hkb]; exact badK_at zs (by rw [HNw.out.1]; exact HBK.out)
        have a7 := fun W => stepHealth_none (RK k) (zs.getD k 0) W hW
        have HRR := HR.out
        obtain ⟨h1, hh1⟩ : ∃ h1, h1 = RK k := ⟨_, rfl⟩
        rw [← hh1] at a7 HRR
        clear hh1
        obtain ⟨s1, g1, r1⟩ := h1
        obtain ⟨m0, m1, m2⟩ := HRR.at
        simp only at m0 m1 m2
        unfold hV zeroH at a7
        simp only at a7
        have HA7 := Hid.mk a7
        have hkb2 : ((badK zs : Int) == (k : Int)) = true := by rw [hkb]; simp
        clear a7 HRR hkb
        generalize zs.getD k 0 = z at *
        clear hW
        go_wp2_with fail
        refine (HA7.out _).mono ?_
        rintro e w8 ⟨rfl, hb8⟩
        have hbx := hbox w8 ⟨0, 0, 0⟩
        have hb89 := bl2 hb8 hbx
        have HX9 := Hid.mk (HX.out.kept hb89)
        have HB9 := Hid.mk (bl2 HB.out hb89)
        unfold hC at HX9 HB9
        simp only at HX9 HB9
        obtain ⟨x0, x1, x2⟩ := HX9.out.at
        simp only at x0 x1 x2
        clear hb8 hbx hb89 m0 m1 m2
        go_wp2_with fail
        go_ret
        exact ⟨rfl, HB9.out⟩
set_option maxHeartbeats 16000000 in
set_option maxRecDepth 100000 in
theorem hstep_ok (hSt : StepIs) (hTe : StateIs) (hCk : CheckIs) (h : Hl) (p : Option Addr) (n c : Nat) (zs : List Int) (w : World) (hz : NumsH w p n zs) (ho : okB h = true) (hn : n ≤ 1000) (hb : ¬ badK zs < n) :
    Calls Tryd.prog 3 #[hV h, .slice p n c] w fun e w' => e = .returned (.bool true) ∧ Below w.heap.size w w' := by
  have HOK := Hid.mk (fun k => runK_ok h zs ((okB_iff h).1 ho) k)
  obtain ⟨RK, hRK⟩ : ∃ RK : Nat → Hl, RK = runK h zs := ⟨_, rfl⟩
  have HRK0 := Hid.mk (show RK 0 = h by rw [hRK]; rfl)
  have HRKs := Hid.mk (show ∀ k, RK (k + 1) = stepH (RK k) (zs.getD k 0) by intro k; rw [hRK]; rfl)
  rw [← hRK] at HOK
  obtain ⟨s, g, r⟩ := h
  have hC0 : chkH ⟨s, g, r⟩ = 0 := by unfold chkH; rw [if_pos ho]
  have hE : stepE ⟨s, g, r⟩ zs = 0 := by unfold stepE; rw [if_pos ho, if_neg (by rw [hz.1]; omega), if_neg (by rw [hz.1]; exact hb)]
  have hA : stepA ⟨s, g, r⟩ zs = 0 := by unfold stepA; rw [hE]; rfl
  have hO : stepO ⟨s, g, r⟩ zs = RK n := by unfold stepO; rw [hE, if_pos rfl, hz.1, hRK]
  have a1 := hSt ⟨s, g, r⟩ p n c zs _ (hz.kept (hbox w ⟨s, g, r⟩))
  rw [hE, hA, hO] at a1
  have a2 := fun W => hTe ⟨s, g, r⟩ W
  rw [if_pos ho, hC0] at a2
  have a3 := fun W => checkHealth_any ⟨s, g, r⟩ W
  rw [hC0] at a3
  have a5 := fun W => hCk ⟨s, g, r⟩ W
  rw [hC0] at a5
  have a6 := fun W => stateOf_any ⟨s, g, r⟩ W
  have HA6 := Hid.mk a6
  unfold hV at HA6
  simp only at HA6
  clear a6
  generalize stateH ⟨s, g, r⟩ = st at *
  obtain ⟨X, hX⟩ : ∃ X, X = RK n := ⟨_, rfl⟩
  rw [← hX] at a1
  have HXe := Hid.mk hX
  clear hX hO
  obtain ⟨xs, xg, xr⟩ := X
  have hn2 : (n : Int) ≤ 1000 := by omega
  have HNw := Hid.mk hz
  have HBK := Hid.mk hb
  have hB0 := hbox w ⟨s, g, r⟩
  have HR0 := Hid.mk (HRow.box w ⟨s, g, r⟩)
  have HB0 := Hid.mk hB0
  have HN := Hid.mk (hz.kept hB0)
  have HA1 := Hid.mk a1
  have HA2 := Hid.mk a2
  have HA3 := Hid.mk a3
  have HA4 := Hid.mk (fun W (hb : Below w.heap.size w W) => well_any hSt hTe W (hz.2.2.2.kept hb))
  have HA5 := Hid.mk a5
  unfold hC at HR0 HB0 HN HA1
  unfold hV at HA1 HA2 HA3 HA5 ⊢
  simp only at HA1 HA2 HA3 HA5 ⊢
  clear hB0 a1 a2 a3 a5 hz
  clear hE hA hC0 ho hSt hTe hCk hRK hb
  obtain ⟨m0, m1, m2⟩ := HR0.out.at
  simp only at m0 m1 m2
  go_enter Tryd.func3, Tryd.ntmps3
  go_wp2_with fail
  refine HA1.out.mono ?_
  rintro e w1 ⟨rfl, hb1⟩
  have hbx := hbox w1 ⟨xs, xg, xr⟩
  have hb12 := bl2 hb1 hbx
  have HX2 := Hid.mk (HRow.box w1 ⟨xs, xg, xr⟩)
  have HR2 := Hid.mk (HR0.out.kept hb12)
  have HN2 := Hid.mk (HN.out.kept hb12)
  have HB2 := Hid.mk (bl2 HB0.out hb12)
  have HNE := Hid.mk (show w.heap.size ≠ w1.heap.size by have h1 := HR0.out.lt; have h2 := hb1.size; omega)
  unfold hC at HX2 HR2 HN2 HB2
  obtain ⟨k0, k1, k2⟩ := HR2.out.at
  simp only at k0 k1 k2 HX2 HB2 HR2 HN2
  clear hb1 hbx hb12 HR0 HN HB0 m0 m1 m2
  go_wp2_with fail
  refine (HA2.out _).mono ?_
  rintro e w3 ⟨rfl, hb3⟩
  have HX3 := Hid.mk (HX2.out.kept hb3)
  have HR3 := Hid.mk (HR2.out.kept hb3)
  have HN3 := Hid.mk (HN2.out.kept hb3)
  have HB3 := Hid.mk (bl2 HB2.out hb3)
  obtain ⟨j0, j1, j2⟩ := HR3.out.at
  simp only at j0 j1 j2
  clear hb3 HX2 HR2 HN2 HB2 k0 k1 k2
  go_wp2_with fail
  refine (HA3.out _).mono ?_
  rintro e w4 ⟨rfl, hb4⟩
  have HX4 := Hid.mk (HX3.out.kept hb4)
  have HR4 := Hid.mk (HR3.out.kept hb4)
  have HN4 := Hid.mk (HN3.out.kept hb4)
  have HB4 := Hid.mk (bl2 HB3.out hb4)
  clear hb4 HX3 HR3 HN3 HB3 j0 j1 j2
  go_wp2_with fail
  refine (HA4.out _ HB4.out).mono ?_
  rintro e w5 ⟨rfl, hb5⟩
  have HX5 := Hid.mk (HX4.out.kept hb5)
  have HR5 := Hid.mk (HR4.out.kept hb5)
  have HN5 := Hid.mk (HN4.out.kept hb5)
  have HB5 := Hid.mk (bl2 HB4.out hb5)
  obtain ⟨k0, k1, k2⟩ := HR5.out.at
  simp only at k0 k1 k2
  clear hb5 HX4 HR4 HN4 HB4
  go_wp2_with fail
  refine (HA5.out _).mono ?_
  rintro e w6 ⟨rfl, hb6⟩
  have HX6 := Hid.mk (HX5.out.kept hb6)
  have HR6 := Hid.mk (HR5.out.kept hb6)
  have HN6 := Hid.mk (HN5.out.kept hb6)
  have HB6 := Hid.mk (bl2 HB5.out hb6)
  clear hb6 HX5 HR5 HN5 HB5 k0 k1 k2
  obtain ⟨y0, y1, y2⟩ := HR6.out.at
  simp only at y0 y1 y2
  go_wp2_with fail
  refine (HA6.out _).mono ?_
  rintro e w7 ⟨rfl, hb7⟩
  have HX7 := Hid.mk (HX6.out.kept hb7)
  have HR7 := Hid.mk (HR6.out.kept hb7)
  have HN7 := Hid.mk (HN6.out.kept hb7)
  have HB7 := Hid.mk (bl2 HB6.out hb7)
  clear hb7 HX6 HR6 HN6 HB6 y0 y1 y2
  go_wp2_with fail
  go_loopw [84] (fun i wr => ∃ k : Nat, k ≤ n ∧ i = .int .i64 k ∧ Hid (HRow wr w.heap.size (RK k)) ∧ Hid (HRow wr w1.heap.size ⟨xs, xg, xr⟩) ∧ Hid (Below w.heap.size w wr)) (fun i _ => n - (intOf i).toNat)
  case atStart => exact ⟨0, Nat.zero_le _, rfl, by rw [HRK0.out]; exact HR7, HX7, HB7⟩
  case round =>
    clear HR7 HX7 HB7 HN7
    obtain ⟨k, hk, rfl, HR, HX, HB⟩ := hrel
    by_cases hkn : k < n
    · have hlt : k < n := by omega
      have hlt' : (k : Int) < (n : Int) := by omega
      cases p with
      | none => exact absurd (HNw.out.2.1 rfl) (by omega)
      | some x =>
        have cz := cell_kept HB.out (HNw.out.2.2.1 x rfl k hlt)
        have hW : isW (zs.getD k 0) = true := by exact badK_before zs k (by have h1 := badK_le zs; have h2 := HNw.out.1; have h3 := HBK.out; omega)
        have a7 := fun W => stepHealth_any (RK k) (zs.getD k 0) W (HOK.out k) hW
        rw [← HRKs.out k] at a7
        have HRR := HR.out
        obtain ⟨h1, hh1⟩ : ∃ h1, h1 = RK k := ⟨_, rfl⟩
        obtain ⟨h2, hh2⟩ : ∃ h2, h2 = RK (k + 1) := ⟨_, rfl⟩
        rw [← hh1, ← hh2] at a7
        rw [← hh1] at HRR
        have HH2 := Hid.mk hh2
        clear hh1 hh2
        obtain ⟨s1, g1, r1⟩ := h1
        obtain ⟨s2, g2, r2⟩ := h2
        have HR1 := Hid.mk HRR
        obtain ⟨m0, m1, m2⟩ := HR1.out.at
        simp only at m0 m1 m2
        unfold hV at a7
        simp only at a7
        have HA7 := Hid.mk a7
        clear a7 HRR
        generalize zs.getD k 0 = z at *
        clear hW
        go_wp2_with fail
        refine (HA7.out _).mono ?_
        rintro e w8 ⟨rfl, hb8⟩
        have hbx := hbox w8 ⟨s2, g2, r2⟩
        have hb89 := bl2 hb8 hbx
        have hA9 := HR1.out.kept hb89
        have HX9 := Hid.mk (HX.out.kept hb89)
        have HB9 := Hid.mk (bl2 HB.out hb89)
        obtain ⟨y0, y1, y2⟩ := HAt.box w8 ⟨s2, g2, r2⟩
        unfold hC at hA9 HX9 HB9 y0 y1 y2
        unfold HRow at hA9
        simp only at hA9 y0 y1 y2
        clear hb8 hbx hb89 m0 m1 m2
        have kc0 := cell_of_row (w8.alloc (.cells #[.int .i64 s2, .int .i64 g2, .int .i64 r2] 23)) w.heap.size 0 _ _ _ hA9
        have kz0 := frozen_of_row (w8.alloc (.cells #[.int .i64 s2, .int .i64 g2, .int .i64 r2] 23)) w.heap.size 0 _ _ hA9
        have ks0 := heap_setCell_same (w8.alloc (.cells #[.int .i64 s2, .int .i64 g2, .int .i64 r2] 23)) w.heap.size 0 _ _ (.int .i64 s2) hA9
        simp only [List.setIfInBounds_toArray, List.set_cons_zero] at ks0
        simp at kc0
        have kc1 := cell_of_row ((w8.alloc (.cells #[.int .i64 s2, .int .i64 g2, .int .i64 r2] 23)).setCell ⟨w.heap.size, 0, none⟩ (.int .i64 s2)) w.heap.size 1 _ _ _ ks0
        have kz1 := frozen_of_row ((w8.alloc (.cells #[.int .i64 s2, .int .i64 g2, .int .i64 r2] 23)).setCell ⟨w.heap.size, 0, none⟩ (.int .i64 s2)) w.heap.size 1 _ _ ks0
        have ks1 := heap_setCell_same ((w8.alloc (.cells #[.int .i64 s2, .int .i64 g2, .int .i64 r2] 23)).setCell ⟨w.heap.size, 0, none⟩ (.int .i64 s2)) w.heap.size 1 _ _ (.int .i64 g2) ks0
        simp only [List.setIfInBounds_toArray, List.set_cons_zero, List.set_cons_succ] at ks1
        simp at kc1
        have kc2 := cell_of_row (((w8.alloc (.cells #[.int .i64 s2, .int .i64 g2, .int .i64 r2] 23)).setCell ⟨w.heap.size, 0, none⟩ (.int .i64 s2)).setCell ⟨w.heap.size, 1, none⟩ (.int .i64 g2)) w.heap.size 2 _ _ _ ks1
        have kz2 := frozen_of_row (((w8.alloc (.cells #[.int .i64 s2, .int .i64 g2, .int .i64 r2] 23)).setCell ⟨w.heap.size, 0, none⟩ (.int .i64 s2)).setCell ⟨w.heap.size, 1, none⟩ (.int .i64 g2)) w.heap.size 2 _ _ ks1
        have ks2 := heap_setCell_same (((w8.alloc (.cells #[.int .i64 s2, .int .i64 g2, .int .i64 r2] 23)).setCell ⟨w.heap.size, 0, none⟩ (.int .i64 s2)).setCell ⟨w.heap.size, 1, none⟩ (.int .i64 g2)) w.heap.size 2 _ _ (.int .i64 r2) ks1
        simp only [List.setIfInBounds_toArray, List.set_cons_zero, List.set_cons_succ] at ks2
        simp at kc2
        have hT : Tch [w.heap.size] (w8.alloc (.cells #[.int .i64 s2, .int .i64 g2, .int .i64 r2] 23)) ((((w8.alloc (.cells #[.int .i64 s2, .int .i64 g2, .int .i64 r2] 23)).setCell ⟨w.heap.size, 0, none⟩ (.int .i64 s2)).setCell ⟨w.heap.size, 1, none⟩ (.int .i64 g2)).setCell ⟨w.heap.size, 2, none⟩ (.int .i64 r2)) := ((((Tch.refl [w.heap.size] (w8.alloc (.cells #[.int .i64 s2, .int .i64 g2, .int .i64 r2] 23))).setK (by simp) _ _).setK (by simp) _ _).setK (by simp) _ _)
        have HRn := Hid.mk (show HRow ((((w8.alloc (.cells #[.int .i64 s2, .int .i64 g2, .int .i64 r2] 23)).setCell ⟨w.heap.size, 0, none⟩ (.int .i64 s2)).setCell ⟨w.heap.size, 1, none⟩ (.int .i64 g2)).setCell ⟨w.heap.size, 2, none⟩ (.int .i64 r2)) w.heap.size ⟨s2, g2, r2⟩ from ks2)
        have HXn := Hid.mk (HX9.out.other hT (fun e => HNE.out e.symm))
        have HBn := Hid.mk (Tch.below HB9.out hT (by simp) (Nat.le_refl _))
        rw [HH2.out] at HRn
        clear hT
        go_wp2_with fail
        go_roundw
        case rel => exact ⟨k + 1, by omega, by go_num, HRn, HXn, HBn⟩
        case measure => simp [intOf]; omega
    · have e : k = n := by omega
      have HRR := HR.out
      rw [e, ← HXe.out] at HRR
      have hkn2 : (n : Int) ≤ (k : Int) := by omega
      obtain ⟨y0, y1, y2⟩ := HRR.at
      obtain ⟨x0, x1, x2⟩ := HX.out.at
      simp only at x0 x1 x2 y0 y1 y2
      clear HRR e
      go_wp2_with fail
      go_ret
      exact ⟨rfl, HB.out⟩
theorem hstep_any (hSt : StepIs) (hTe : StateIs) (hCk : CheckIs) (h : Hl) (p : Option Addr) (n c : Nat) (zs : List Int) (w : World) (hz : NumsH w p n zs) :
    Calls Tryd.prog 3 #[hV h, .slice p n c] w fun e w' => e = .returned (.bool true) ∧ Below w.heap.size w w' := by
  rcases Bool.eq_false_or_eq_true (okB h) with ho | ho
  · by_cases hn : 1000 < n
    · exact hstep_many hSt hTe hCk h p n c zs w hz ho hn
    · by_cases hb : badK zs < n
      · exact hstep_who hSt hTe hCk h p n c zs w hz ho (by omega) hb
      · exact hstep_ok hSt hTe hCk h p n c zs w hz ho (by omega) hb
  · exact hstep_bad hSt hTe hCk h p n c zs w hz ho
end Bw
end Go.Proofs.YtemjjkjceeljbaaDoor
