/- The law HealthRests: whatever happens, right counters stay so; what is off stays so through all but rest, and gets well by a hundred and twenty-eight. -/
import Derived.Test.YtemjjkjceeljbaaDoorHstepLaw
import Derived.Test.YtemjjkjceeljbaaDoorHealthRestM
import Derived.Deep.DeepCutAuto
import Derived.Deep.RegionHeld3
namespace Go.Proofs.YtemjjkjceeljbaaDoor
open Go.ChangeShapes Go.WideShapes Go.ChangeAt Go.RowKit
namespace Bw
theorem info_i : (Tryd.prog.info? 3).map (fun i => (i.zero, i.size, i.bytes)) = some (some (.int .i64 0), 1, 8) := by kernel_rfl
def numC (l : List Int) : List Value := l.map fun n => .int .i64 n
theorem nums_own {w : World} {base n : Nat} {v : Value} {l : List Int} (ho : w.ownsRow base 3 1 v n (numC l)) (hC : ChgAt w) : ∃ a cap, v = .slice a n cap ∧ NumsH w a n l := by
  have hl : l.length = n := by have := ho.1; simpa [numC] using this
  rcases ho.2 with ⟨rfl, rfl⟩ | ⟨g, cap, cur, rfl, hb, hg, h1, h2, h3, h4⟩
  · exact ⟨none, 0, rfl, hl, fun _ => rfl, (fun x hx => by cases hx), hC⟩
  · refine ⟨some ⟨g, 0, none⟩, cap, rfl, hl, (fun h => by cases h), (fun x hx i hi => ?_), hC⟩
    cases hx
    have e : (Addr.add ⟨g, 0, none⟩ i) = ⟨g, i, none⟩ := by simp [Addr.add]; exact fun h => h.symm
    rw [e, ho.cellAt i (by omega)]
    simp [numC, List.getD, show i < l.length by omega]
theorem lt_of_some {w : World} {b : Nat} {o : Obj} (h : w.heap[b]? = some o) : b < w.heap.size := by
  rcases Nat.lt_or_ge b w.heap.size with x | x
  · exact x
  · rw [Array.getElem?_eq_none x] at h; cases h
theorem HRow.cells {w : World} {b : Nat} {h : Hl} (q : HRow w b h) : (w.cell? ⟨b, 0, none⟩ = some (.int .i64 h.s) ∧ w.cell? ⟨b, 1, none⟩ = some (.int .i64 h.g) ∧ w.cell? ⟨b, 2, none⟩ = some (.int .i64 h.r)) ∧ w.frozen? ⟨b, 0, none⟩ = false ∧ w.frozen? ⟨b, 1, none⟩ = false ∧ w.frozen? ⟨b, 2, none⟩ = false :=
  ⟨⟨q.at.c0, q.at.c1, q.at.c2⟩, frozen_of_row w b 0 _ _ q, frozen_of_row w b 1 _ _ q, frozen_of_row w b 2 _ _ q⟩
theorem HRow.set3 {w : World} {b : Nat} {h : Hl} (q : HRow w b h) (s g r : Int) : HRow (((w.setCell ⟨b, 0, none⟩ (.int .i64 s)).setCell ⟨b, 1, none⟩ (.int .i64 g)).setCell ⟨b, 2, none⟩ (.int .i64 r)) b ⟨s, g, r⟩ := by
  unfold HRow at q ⊢
  have s0 := heap_setCell_same w b 0 _ _ (.int .i64 s) q
  simp only [List.setIfInBounds_toArray, List.set_cons_zero] at s0
  have s1 := heap_setCell_same _ b 1 _ _ (.int .i64 g) s0
  simp only [List.setIfInBounds_toArray, List.set_cons_zero, List.set_cons_succ] at s1
  have s2 := heap_setCell_same _ b 2 _ _ (.int .i64 r) s1
  simp only [List.setIfInBounds_toArray, List.set_cons_zero, List.set_cons_succ] at s2
  exact s2
theorem far3 {w : World} {b b' : Nat} {x y z u v t : Value} (h0 : w.cell? ⟨b, 0, none⟩ = some x) (h1 : w.cell? ⟨b, 1, none⟩ = some y) (h2 : w.cell? ⟨b, 2, none⟩ = some z) (hne : b ≠ b') :
    (((w.setCell ⟨b', 0, none⟩ u).setCell ⟨b', 1, none⟩ v).setCell ⟨b', 2, none⟩ t).cell? ⟨b, 0, none⟩ = some x ∧ (((w.setCell ⟨b', 0, none⟩ u).setCell ⟨b', 1, none⟩ v).setCell ⟨b', 2, none⟩ t).cell? ⟨b, 1, none⟩ = some y ∧ (((w.setCell ⟨b', 0, none⟩ u).setCell ⟨b', 1, none⟩ v).setCell ⟨b', 2, none⟩ t).cell? ⟨b, 2, none⟩ = some z := by
  have e : (((w.setCell ⟨b', 0, none⟩ u).setCell ⟨b', 1, none⟩ v).setCell ⟨b', 2, none⟩ t).heap[b]? = w.heap[b]? := by
    rw [Below.heap_setCell _ _ _ _ hne, Below.heap_setCell _ _ _ _ hne, Below.heap_setCell _ _ _ _ hne]
  unfold World.cell? at h0 h1 h2 ⊢
  simp only at h0 h1 h2 ⊢
  rw [e]
  exact ⟨h0, h1, h2⟩
theorem zxb (w : World) : Below w.heap.size w (w.alloc (.cells #[.int .i64 0, .int .i64 0, .int .i64 0] 23)) := hbox w ⟨0, 0, 0⟩
theorem zxh {w : World} {g : Nat} {o : Obj} (h : w.heap[g]? = some o) : (w.alloc (.cells #[.int .i64 0, .int .i64 0, .int .i64 0] 23)).heap[g]? = some o := ((zxb w).block g (lt_of_some h)).trans h
theorem zxr (w : World) : HRow (w.alloc (.cells #[.int .i64 0, .int .i64 0, .int .i64 0] 23)) w.heap.size ⟨0, 0, 0⟩ := HRow.box w ⟨0, 0, 0⟩
theorem kept3 {w w' : World} {a b c : Addr} {x y z : Value} (h0 : w.cell? a = some x) (h1 : w.cell? b = some y) (h2 : w.cell? c = some z) (hb : Below w.heap.size w w') : w'.cell? a = some x ∧ w'.cell? b = some y ∧ w'.cell? c = some z :=
  ⟨cell_kept hb h0, cell_kept hb h1, cell_kept hb h2⟩
theorem drewB (w : World) : Below w.heap.size w w.drew := (Below.refl _ _).drew
theorem allocB (w : World) (o : Obj) : Below w.heap.size w (w.alloc o) := (Below.refl _ _).alloc (Nat.le_refl _) _
theorem allocDB (w : World) (o : Obj) : Below w.heap.size w (w.alloc o).drew := (allocB w o).drew
theorem alloc2DB (w : World) (o p : Obj) : Below w.heap.size w ((w.alloc o).alloc p).drew := (below2 w o p).drew
theorem tch3 (w : World) (b : Nat) (u v x : Value) : Tch [b] w (((w.setCell ⟨b, 0, none⟩ u).setCell ⟨b, 1, none⟩ v).setCell ⟨b, 2, none⟩ x) := ((((Tch.refl [b] w).setK (by simp) _ _).setK (by simp) _ _).setK (by simp) _ _)
set_option maxHeartbeats 200000000 in
set_option maxRecDepth 100000 in
theorem hrest_bad (hSt : StepIs) (hTe : StateIs) (hCk : CheckIs) (h : Hl) (p : Option Addr) (n c : Nat) (zs : List Int) (w : World) (hz : NumsH w p n zs) (hE : stepE h zs ≠ 0) :
    Calls Tryd.prog 5 #[hV h, .slice p n c] w fun e w' => e = .returned (.bool true) ∧ Below w.heap.size w w' := by
  have _ := hCk
  have a1 := hSt h p n c zs _ (hz.kept (hbox w h))
  have hB0 := hbox w h
  have HR0 := Hid.mk (HRow.box w h)
  have HB0 := Hid.mk hB0
  have hne : (stepE h zs != 0) = true := by simpa using hE
  generalize stepE h zs = se at *
  generalize stepA h zs = sa at *
  generalize stepO h zs = so at *
  obtain ⟨s, g, r⟩ := h
  obtain ⟨os, og, or_⟩ := so
  have HA1 := Hid.mk a1
  have HA4 := Hid.mk (fun W (hb : Below w.heap.size w W) => well_any hSt hTe W (hz.2.2.2.kept hb))
  unfold hC at HR0 HB0 HA1
  unfold hV at HA1 ⊢
  simp only at HA1 HR0 HB0 ⊢
  obtain ⟨m0, m1, m2⟩ := HR0.out.at
  simp only at m0 m1 m2
  clear hB0 a1 hz hE hSt hTe hCk
  go_enter Tryd.func5, Tryd.ntmps5
  go_wp2_with fail
  refine HA1.out.mono ?_
  rintro e w1 ⟨rfl, hb1⟩
  have HB2 := Hid.mk (bl2 HB0.out (bl2 hb1 (hbox w1 ⟨os, og, or_⟩)))
  unfold hC at HB2
  simp only at HB2
  clear hb1 m0 m1 m2
  go_wp2_with fail
  refine (HA4.out _ HB2.out).mono ?_
  rintro e w3 ⟨rfl, hb3⟩
  have HB3 := Hid.mk (bl2 HB2.out hb3)
  clear hb3
  go_wp2_with fail
  refine (HA4.out _ HB3.out).mono ?_
  rintro e w4 ⟨rfl, hb4⟩
  have HB4 := Hid.mk (bl2 HB3.out hb4)
  clear hb4
  go_wp2_with fail
  go_ret
  exact ⟨rfl, HB4.out⟩
set_option maxHeartbeats 200000000 in
set_option maxRecDepth 100000 in
theorem hrest_ok (hSt : StepIs) (hTe : StateIs) (hCk : CheckIs) (h : Hl) (p : Option Addr) (n c : Nat) (zs : List Int) (w : World) (hz : NumsH w p n zs) (ho : okH h) (hn : n ≤ 1000) (hw : ∀ x ∈ zs, isW x = true) :
    Calls Tryd.prog 5 #[hV h, .slice p n c] w fun e w' => e = .returned (.bool true) ∧ Below w.heap.size w w' := by
  obtain ⟨i0, hi, hz0, hz1, hz2⟩ := info_parts info_i
  obtain ⟨hE, hO⟩ := step_all h zs ho (by rw [hz.1]; exact hn) hw
  have hA : stepA h zs = 0 := by unfold stepA; rw [hE]; rfl
  have a1 := hSt h p n c zs _ (hz.kept (hbox w h))
  rw [hE, hO, hA] at a1
  have hXok := runK_ok h zs ho zs.length
  obtain ⟨Y, hY⟩ : ∃ Y, Y = tk h 32 := ⟨_, rfl⟩
  have hYs : Y.s = 256 := by rw [hY]; exact tk32 h ho
  have hYok : okH Y := by rw [hY]; exact tk_ok h ho 32
  have hYr : 0 ≤ Y.r ∧ Y.r ≤ 127 := by unfold okH at hYok; omega
  obtain ⟨m, hm⟩ : ∃ m : Nat, Y.r + (m : Int) = 128 := ⟨(128 - Y.r).toNat, by omega⟩
  have e3 : ∀ x ∈ List.replicate 32 (3 : Int), isW x = true := by intro x hx; rw [(List.mem_replicate.1 hx).2]; rfl
  obtain ⟨f1, f2⟩ := step_all h (List.replicate 32 3) ho (by simp) e3
  have f3 : stepA h (List.replicate 32 3) = 0 := by unfold stepA; rw [f1]; rfl
  rw [List.length_replicate, runK_rep3 h 32 32 (Nat.le_refl _), ← hY] at f2
  have a5 := fun W g hW (hb : Below w.heap.size w W) => hSt h (some ⟨g, 0, none⟩) 32 32 (List.replicate 32 3) W (nums_rep hW (hz.2.2.2.kept hb))
  rw [f1, f2, f3] at a5
  have q6 : ∀ x ∈ quietL zs, isW x = true := fun x hx => hw x (List.mem_filter.1 hx).1
  have q7 : ∀ x ∈ quietL zs, x ≠ 6 := fun x hx => by simpa using (List.mem_filter.1 hx).2
  have ql : (quietL zs).length ≤ 1000 := by have h1 : (quietL zs).length ≤ zs.length := List.length_filter_le _ _; have h2 := hz.1; omega
  obtain ⟨g1, g2⟩ := step_all Y (quietL zs) hYok ql q6
  have g3 : stepA Y (quietL zs) = 0 := by unfold stepA; rw [g1]; rfl
  rw [runK_quiet Y hYs (quietL zs) q7 _ (Nat.le_refl _)] at g2
  have a6 := fun a k c W (hW : NumsH W a k (quietL zs)) => hSt Y a k c (quietL zs) W hW
  rw [g1, g2, g3] at a6
  have e6 : ∀ x ∈ List.replicate m (6 : Int), isW x = true := by intro x hx; rw [(List.mem_replicate.1 hx).2]; rfl
  obtain ⟨w1_, w2_⟩ := step_all Y (List.replicate m 6) hYok (by simp; omega) e6
  have w3_ : stepA Y (List.replicate m 6) = 0 := by unfold stepA; rw [w1_]; rfl
  rw [List.length_replicate, runK_well Y hYs m (by omega) hm] at w2_
  have a8 := fun W g hW (hb : Below w.heap.size w W) => hSt Y (some ⟨g, 0, none⟩) m m (List.replicate m 6) W (nums_rep hW (hz.2.2.2.kept hb))
  rw [w1_, w2_, w3_] at a8
  unfold zeroH at a8
  have a3 := fun W => hCk (runK h zs zs.length) W
  have hX0 : chkH (runK h zs zs.length) = 0 := by unfold chkH; rw [if_pos ((okB_iff _).2 hXok)]
  rw [hX0] at a3
  generalize runK h zs zs.length = X at *
  have HNw := Hid.mk hz
  have hm1 : 1 ≤ m := by omega
  have hm2 : m ≤ 128 := by omega
  have hYm : Y.r = 128 - (m : Int) := by omega
  have HR0 := Hid.mk (HRow.box w h)
  have HB0 := Hid.mk (hbox w h)
  have HA4 := Hid.mk (fun W (hb : Below w.heap.size w W) => well_any hSt hTe W (hz.2.2.2.kept hb))
  have HRP := Hid.mk (show ∀ (W : World) (g : Nat), W.cell? ⟨g, 0, none⟩ = some (.int .i64 3) → Calls Tryd.prog 14 #[.slice (some ⟨g, 0, none⟩) 1 1, .int .i64 32] W fun e w' => ∃ g, e = .returned (.slice (some ⟨g, 0, none⟩) 32 32) ∧ w'.heap[g]? = some (.cells (List.replicate 32 (Value.int .i64 3)).toArray 3 (0, 0)) ∧ W.heap.size ≤ g ∧ Below W.heap.size W w' from fun W g hW => repeatN_any 3 g 32 W (by omega) (by omega) hW)
  have hwm : IntKind.i64.wrap (128 - (128 - (m : Int))) = (m : Int) := by rw [IntKind.wrap_i64]; omega
  have HRQ := Hid.mk (show ∀ (W : World) (g : Nat), W.cell? ⟨g, 0, none⟩ = some (.int .i64 6) → Calls Tryd.prog 14 #[.slice (some ⟨g, 0, none⟩) 1 1, .int .i64 (IntKind.i64.wrap (128 - (128 - (m : Int))))] W fun e w' => ∃ g, e = .returned (.slice (some ⟨g, 0, none⟩) m m) ∧ w'.heap[g]? = some (.cells (List.replicate m (Value.int .i64 6)).toArray 3 (0, 0)) ∧ W.heap.size ≤ g ∧ Below W.heap.size W w' from fun W g hW => by rw [hwm]; exact repeatN_any 6 g m W hm1 hm2 hW)
  clear hwm
  have HQL := Hid.mk ql
  clear hE hO hA hXok hY hYs hYok hYr hm e3 f1 f2 f3 q6 q7 ql g1 g2 g3 e6 w1_ w2_ w3_ hX0 ho hSt hTe hCk hz hw
  obtain ⟨s, g, r⟩ := h
  obtain ⟨xs, xg, xr⟩ := X
  obtain ⟨ys, yg, yr⟩ := Y
  simp only at hYm
  subst hYm
  have HA1 := Hid.mk a1
  have HA3 := Hid.mk a3
  have HA5 := Hid.mk a5
  have HA6 := Hid.mk a6
  have HA8 := Hid.mk a8
  unfold hC at HR0 HB0 HA1
  unfold hV at HA1 HA3 HA5 HA6 HA8 ⊢
  simp only at HA1 HA3 HA5 HA6 HA8 HR0 HB0 ⊢
  obtain ⟨m0, m1, m2⟩ := HR0.out.at
  simp only at m0 m1 m2
  clear a1 a3 a5 a6 a8
  go_enter Tryd.func5, Tryd.ntmps5
  go_wp2_with fail
  refine HA1.out.mono ?_
  rintro e w1 ⟨rfl, hb1⟩
  have hb12 := bl2 hb1 (hbox w1 ⟨xs, xg, xr⟩)
  have HX2 := Hid.mk (HRow.box w1 ⟨xs, xg, xr⟩)
  have HR2 := Hid.mk (HR0.out.kept hb12)
  have HB2 := Hid.mk (bl2 HB0.out hb12)
  unfold hC at HX2 HR2 HB2
  simp only at HX2 HR2 HB2
  clear hb1 hb12 HR0 HB0 m0 m1 m2
  go_wp2_with fail
  refine (HA4.out _ HB2.out).mono ?_
  rintro e w3 ⟨rfl, hb3⟩
  have HX3 := Hid.mk (HX2.out.kept hb3)
  have HR3 := Hid.mk (HR2.out.kept hb3)
  have HB3 := Hid.mk (bl2 HB2.out hb3)
  obtain ⟨x0, x1, x2⟩ := HX3.out.at
  simp only at x0 x1 x2
  clear hb3 HX2 HR2 HB2
  go_wp2_with fail
  refine (HA3.out _).mono ?_
  rintro e w4 ⟨rfl, hb4⟩
  have HR4 := Hid.mk (HR3.out.kept hb4)
  have HB4 := Hid.mk (bl2 HB3.out hb4)
  obtain ⟨y0, y1, y2⟩ := HR4.out.at
  simp only at y0 y1 y2
  clear hb4 HR3 HB3 HX3 x0 x1 x2
  go_wp2_with fail
  go_cut [7, 8, 9] (fun s7 s8 s9 wx => ∃ gy, s7 = .int .i64 0 ∧ s8 = .pointer (some ⟨gy, 0, none⟩) ∧ s9 = .int .i64 0 ∧ w.heap.size ≤ gy ∧ Hid (HRow wx gy ⟨ys, yg, 128 - (m : Int)⟩) ∧ Hid (Below w.heap.size w wx))
  case first =>
    have HD1 := Hid.mk (show Below w4.heap.size w4 (w4.alloc (.cells #[.int .i64 3] 3)).drew from ((Below.refl _ _).alloc (Nat.le_refl _) _).drew)
    have HD2 := Hid.mk (show Below w4.heap.size w4 ((w4.alloc (.cells #[.int .i64 3] 3)).alloc (.cells #[.int .i64 0, .int .i64 0, .int .i64 0] 23)).drew from (below2 w4 _ _).drew)
    have HD3 := Hid.mk (show Below w4.heap.size w4 ((w4.alloc (.cells #[.int .i64 0, .int .i64 0, .int .i64 0] 23)).alloc (.cells #[.int .i64 3] 3)).drew from (below2 w4 _ _).drew)
    have HC1 := Hid.mk (cell_of_row (w4.alloc (.cells #[.int .i64 3] 3)).drew w4.heap.size 0 _ _ _ (heap_alloc_new w4 _))
    have HC2 := Hid.mk (cell_kept (w := w4.alloc (.cells #[.int .i64 3] 3)) (w' := ((w4.alloc (.cells #[.int .i64 3] 3)).alloc (.cells #[.int .i64 0, .int .i64 0, .int .i64 0] 23)).drew) (((Below.refl _ _).alloc (Nat.le_refl _) _).drew) (cell_of_row (w4.alloc (.cells #[.int .i64 3] 3)) w4.heap.size 0 _ _ _ (heap_alloc_new w4 _)))
    have HC3 := Hid.mk (cell_of_row ((w4.alloc (.cells #[.int .i64 0, .int .i64 0, .int .i64 0] 23)).alloc (.cells #[.int .i64 3] 3)).drew (w4.heap.size + 1) 0 _ _ _ (new2 w4 _ _))
    have HZ2 := Hid.mk (show HRow ((w4.alloc (.cells #[.int .i64 3] 3)).alloc (.cells #[.int .i64 0, .int .i64 0, .int .i64 0] 23)).drew (w4.heap.size + 1) ⟨0, 0, 0⟩ from new2 w4 _ _)
    have HZ3 := Hid.mk (show HRow ((w4.alloc (.cells #[.int .i64 0, .int .i64 0, .int .i64 0] 23)).alloc (.cells #[.int .i64 3] 3)).drew w4.heap.size ⟨0, 0, 0⟩ from HRow.kept (w := w4.alloc (.cells #[.int .i64 0, .int .i64 0, .int .i64 0] 23)) (HRow.box w4 ⟨0, 0, 0⟩) ((Below.refl _ _).alloc (Nat.le_refl _) _).drew)
    have HLE := Hid.mk HB4.out.size
    have q4 : w.heap.size < w4.heap.size := HR4.out.lt
    have n0 := World.new_ne w4 _ y0
    have n1 := World.new_ne w4 _ y1
    have n2 := World.new_ne w4 _ y2
    go_region_held3 (fun w' => w'.cell? ⟨w.heap.size, 0, none⟩ = some (.int .i64 s) ∧ w'.cell? ⟨w.heap.size, 1, none⟩ = some (.int .i64 g) ∧ w'.cell? ⟨w.heap.size, 2, none⟩ = some (.int .i64 r)) (with_reducible first | exact ⟨v0, v1, v2⟩ | exact far3 v0 v1 v2 (by omega) | exact kept3 v0 v1 v2 (allocB _ _) | exact ⟨x0, x1, x2⟩ | exact kept3 x0 x1 x2 (allocB _ _) | exact kept3 y0 y1 y2 (drewB _) | exact kept3 y0 y1 y2 (allocDB _ _) | exact kept3 y0 y1 y2 (alloc2DB _ _ _)) (first
      | (go_at_call 14; (first
        | (with_reducible refine (HRP.out _ _ HC1.out).mono ?_; rintro e w5 ⟨g5, rfl, hh5, -, hb5⟩; have HH5 := Hid.mk hh5; have hb45 := bl2 HD1.out hb5; have HBx := Hid.mk (zxb w5); have HHx := Hid.mk (zxh hh5); have HZx := Hid.mk (zxr w5); have HBy := Hid.mk (bl2 (bl2 HB4.out hb45) (zxb w5)))
        | (with_reducible refine (HRP.out _ _ HC2.out).mono ?_; rintro e w5 ⟨g5, rfl, hh5, -, hb5⟩; have HH5 := Hid.mk hh5; have hb45 := bl2 HD2.out hb5; have HZ5 := Hid.mk (HZ2.out.kept hb5))
        | (with_reducible refine (HRP.out _ _ HC3.out).mono ?_; rintro e w5 ⟨g5, rfl, hh5, -, hb5⟩; have HH5 := Hid.mk hh5; have hb45 := bl2 HD3.out hb5; have HZ5 := Hid.mk (HZ3.out.kept hb5))); have HB5 := Hid.mk (bl2 HB4.out hb45); have HL5 := Hid.mk HB5.out.size; have HR5 := Hid.mk (HR4.out.kept hb45); have q5 : w.heap.size < w5.heap.size := HR5.out.lt; obtain ⟨x0, x1, x2⟩ := HR5.out.at; simp only at x0 x1 x2; clear hh5 hb5 hb45)
      | (go_at_call 6; first
        | (with_reducible refine (HA5.out w5 _ HH5.out HB5.out).mono ?_; rintro e w6 ⟨rfl, hb6⟩; have HZ6 := Hid.mk (HZ5.out.kept hb6); obtain ⟨⟨b0, b1, b2⟩, f0, f1, f2⟩ := HZ6.out.cells; simp only at b0 b1 b2; have HB6 := Hid.mk (bl2 HB5.out hb6); obtain ⟨v0, v1, v2⟩ := (HR5.out.kept hb6).at; simp only at v0 v1 v2; clear hb6)
        | (with_reducible refine (HA5.out w5 _ HH5.out HB5.out).mono ?_; rintro e w6 ⟨rfl, hb6⟩; have HB6 := Hid.mk (bl2 HB5.out hb6); obtain ⟨v0, v1, v2⟩ := (HR5.out.kept hb6).at; simp only at v0 v1 v2; clear hb6)
        | (with_reducible refine (HA5.out (w5.alloc (.cells #[.int .i64 0, .int .i64 0, .int .i64 0] 23)) _ HHx.out HBy.out).mono ?_; rintro e w6 ⟨rfl, hb6⟩; have HZ6 := Hid.mk (HZx.out.kept hb6); obtain ⟨⟨b0, b1, b2⟩, f0, f1, f2⟩ := HZ6.out.cells; simp only at b0 b1 b2; have HB6 := Hid.mk (bl2 HBy.out hb6); obtain ⟨v0, v1, v2⟩ := (HR5.out.kept (bl2 HBx.out hb6)).at; simp only at v0 v1 v2; clear hb6)))
    · go_wp2_with fail
      go_meet
      exact ⟨_, rfl, rfl, rfl, HB6.out.size, Hid.mk (HRow.box w6 ⟨ys, yg, 128 - (m : Int)⟩), Hid.mk (bl2 HB6.out (hbox w6 ⟨ys, yg, 128 - (m : Int)⟩))⟩
    all_goals focus
      go_wp2_with fail
      go_meet
      exact ⟨_, rfl, rfl, rfl, by omega, Hid.mk (HZ6.out.set3 _ _ _), Hid.mk (Tch.below HB6.out (tch3 _ _ _ _ _) (by simp; omega) (Nat.le_refl _))⟩
  case rest =>
    obtain ⟨gy, rfl, rfl, rfl, hgy, HYc, HBc⟩ := hcut
    clear HR4 HB4 y0 y1 y2 HRP HA1 HA3 HA4 HA5
    have HNc := Hid.mk (HNw.out.kept HBc.out)
    have hgl : gy < wc.heap.size := HYc.out.lt
    clear HNw
    go_wp2_with fail
    go_loopw [10, 47] (fun v i wr => ∃ k : Nat, k ≤ n ∧ i = .int .i64 k ∧ Hid (wr.ownsRow wc.heap.size 3 1 v (quietL (zs.take k)).length (numC (quietL (zs.take k)))) ∧ Hid (Below wc.heap.size wc wr)) (fun _ i _ => n - (intOf i).toNat)
    case atStart => exact ⟨0, Nat.zero_le _, rfl, Hid.mk (by simpa [quietL, numC] using World.ownsRow_nil _ _ _ _), Hid.mk (Below.refl _ _)⟩
    case round =>
      obtain ⟨k, hk, rfl, HO, HB⟩ := hrel
      by_cases hlt : k < n
      · have hlt' : (k : Int) < (n : Int) := by omega
        have hkl : k < zs.length := by rw [HNc.out.1]; exact hlt
        cases p with
        | none => exact absurd (HNc.out.2.1 rfl) (by omega)
        | some x =>
          have cz := cell_kept HB.out (HNc.out.2.2.1 x rfl k hlt)
          rw [show zs.getD k 0 = zs[k] by simp [List.getD, hkl]] at cz
          have hts : zs.take (k + 1) = zs.take k ++ [zs[k]] := List.take_succ_eq_append_getElem hkl
          have hql : (quietL (zs.take k)).length ≤ 1000 := by
            have h1 : (quietL (zs.take k)).length ≤ (zs.take k).length := List.length_filter_le _ _
            rw [List.length_take] at h1; omega
          by_cases h6 : zs[k] = 6
          · have b6 : (zs[k] != 6) = false := by simpa using h6
            have hq : quietL (zs.take (k + 1)) = quietL (zs.take k) := by rw [hts]; unfold quietL; rw [List.filter_append]; simp [h6]
            have HQ := Hid.mk hq
            rw [h6] at cz
            clear hts hql hq h6 b6
            go_wp2_with fail
            go_roundw
            case rel => exact ⟨k + 1, by omega, by go_num, Hid.mk (by rw [HQ.out]; exact HO.out), HB⟩
            case measure => simp [intOf]; omega
          · have b6 : (zs[k] != 6) = true := by simpa using h6
            have hq : quietL (zs.take (k + 1)) = quietL (zs.take k) ++ [zs[k]] := by rw [hts]; unfold quietL; rw [List.filter_append]; simp [b6]
            have HQ := Hid.mk (show numC (quietL (zs.take k)) ++ [Value.int .i64 zs[k]] = numC (quietL (zs.take (k + 1))) ∧ (quietL (zs.take k)).length + 1 = (quietL (zs.take (k + 1))).length by rw [hq]; exact ⟨by simp [numC], by simp⟩)
            generalize zs[k] = z at *
            clear hts hq h6
            generalize (quietL (zs.take k)).length = ql at *
            go_wp2_with (at_builtin; refine wpList_append_own _ rfl (.tmp 53) (.tmp 55) 24 rfl wc.heap.size 3 i0 (.int .i64 0) 1 8 Tryd.underlying24 hi hz0 hz1 hz2 rfl (by decide) _ _ _ rfl (HO.out.alloc _) ⟨wr.heap.size, 0, none⟩ 1 1 [Value.int .i64 z] rfl rfl (by intro q u hq; match q, hq with | 0, hq => (simp at hq; subst hq; simp [Addr.add])) (by intro u hu; simp at hu; subst hu; rfl) (by unfold maxLen; omega) (by omega) (by have := HB.out.size; simp; omega) ?_; intro v3 w3 hown3 hgrow3 _)
            have hB3 : Below wc.heap.size wc w3 := Below.grown (HB.out.alloc HB.out.size _) hgrow3 (by have := HB.out.size; simp; omega) (fun q hq => (HO.out.lt q hq).1)
            rw [HQ.out.1, HQ.out.2] at hown3
            clear hgrow3
            go_roundw
            case rel => exact ⟨k + 1, by omega, by go_num, Hid.mk hown3, Hid.mk hB3⟩
            case measure => simp [intOf]; omega
      · have e : k = n := by omega
        subst e
        have hown := HO.out
        rw [List.take_of_length_le (by rw [HNc.out.1]; exact Nat.le_refl _)] at hown
        obtain ⟨qa, qc, rfl, hq⟩ := nums_own hown (HNc.out.2.2.2.kept HB.out)
        have HQ := Hid.mk hq
        have HYr := Hid.mk (HYc.out.kept HB.out)
        have HBr := Hid.mk (bl2 HBc.out HB.out)
        obtain ⟨y0, y1, y2⟩ := HYr.out.at
        simp only at y0 y1 y2
        clear hown hq HO
        go_wp2_with fail
        refine (HA6.out _ _ _ _ HQ.out).mono ?_
        rintro e w7 ⟨rfl, hb7⟩
        have hb78 := bl2 hb7 (hbox w7 ⟨ys, yg, 128 - (m : Int)⟩)
        have HZ8 := Hid.mk (HRow.box w7 ⟨ys, yg, 128 - (m : Int)⟩)
        have HY8 := Hid.mk (HYr.out.kept hb78)
        have HB8 := Hid.mk (bl2 HBr.out hb78)
        have HL7 := Hid.mk hb7.size
        unfold hC at HZ8 HY8 HB8
        simp only at HZ8 HY8 HB8
        obtain ⟨W8, hW8⟩ : ∃ W8, W8 = w7.alloc (.cells #[.int .i64 ys, .int .i64 yg, .int .i64 (128 - (m : Int))] 23) := ⟨_, rfl⟩
        rw [← hW8] at HZ8 HY8 HB8
        have HHW := Hid.mk (show w7.heap.size < W8.heap.size from HZ8.out.lt)
        have hgw : gy < W8.heap.size := HY8.out.lt
        have h7w : w7.heap.size < W8.heap.size := HZ8.out.lt
        obtain ⟨y0, y1, y2⟩ := HY8.out.at
        simp only at y0 y1 y2
        clear hb7 hb78 HYr HBr HQ
        go_wp2_with fail
        rw [← hW8]
        clear hW8 HA6 HQL HYc HBc HNc HB hi hz0 hz1 hz2 hgl HL7
        go_cut [15, 16, 17] (fun s15 s16 s17 wx => ∃ gw, s15 = .pointer (some ⟨gw, 0, none⟩) ∧ s16 = .int .i64 0 ∧ s17 = .int .i64 0 ∧ Hid (HRow wx gw ⟨0, 0, 0⟩) ∧ Hid (HRow wx gy ⟨ys, yg, 128 - (m : Int)⟩) ∧ Hid (HRow wx w7.heap.size ⟨ys, yg, 128 - (m : Int)⟩) ∧ Hid (Below w.heap.size w wx))
        case first =>
          have HD1 := Hid.mk (show Below W8.heap.size W8 (W8.alloc (.cells #[.int .i64 6] 3)).drew from ((Below.refl _ _).alloc (Nat.le_refl _) _).drew)
          have HD2 := Hid.mk (show Below W8.heap.size W8 ((W8.alloc (.cells #[.int .i64 6] 3)).alloc (.cells #[.int .i64 0, .int .i64 0, .int .i64 0] 23)).drew from (below2 W8 _ _).drew)
          have HD3 := Hid.mk (show Below W8.heap.size W8 ((W8.alloc (.cells #[.int .i64 0, .int .i64 0, .int .i64 0] 23)).alloc (.cells #[.int .i64 6] 3)).drew from (below2 W8 _ _).drew)
          have HC1 := Hid.mk (cell_of_row (W8.alloc (.cells #[.int .i64 6] 3)).drew W8.heap.size 0 _ _ _ (heap_alloc_new W8 _))
          have HC2 := Hid.mk (cell_kept (w := W8.alloc (.cells #[.int .i64 6] 3)) (w' := ((W8.alloc (.cells #[.int .i64 6] 3)).alloc (.cells #[.int .i64 0, .int .i64 0, .int .i64 0] 23)).drew) (((Below.refl _ _).alloc (Nat.le_refl _) _).drew) (cell_of_row (W8.alloc (.cells #[.int .i64 6] 3)) W8.heap.size 0 _ _ _ (heap_alloc_new W8 _)))
          have HC3 := Hid.mk (cell_of_row ((W8.alloc (.cells #[.int .i64 0, .int .i64 0, .int .i64 0] 23)).alloc (.cells #[.int .i64 6] 3)).drew (W8.heap.size + 1) 0 _ _ _ (new2 W8 _ _))
          have HZ2 := Hid.mk (show HRow ((W8.alloc (.cells #[.int .i64 6] 3)).alloc (.cells #[.int .i64 0, .int .i64 0, .int .i64 0] 23)).drew (W8.heap.size + 1) ⟨0, 0, 0⟩ from new2 W8 _ _)
          have HZ3 := Hid.mk (show HRow ((W8.alloc (.cells #[.int .i64 0, .int .i64 0, .int .i64 0] 23)).alloc (.cells #[.int .i64 6] 3)).drew W8.heap.size ⟨0, 0, 0⟩ from HRow.kept (w := W8.alloc (.cells #[.int .i64 0, .int .i64 0, .int .i64 0] 23)) (HRow.box W8 ⟨0, 0, 0⟩) ((Below.refl _ _).alloc (Nat.le_refl _) _).drew)
          have n0 := World.new_ne W8 _ y0
          have n1 := World.new_ne W8 _ y1
          have n2 := World.new_ne W8 _ y2
          go_region_held3 (fun w' => w'.cell? ⟨gy, 0, none⟩ = some (.int .i64 ys) ∧ w'.cell? ⟨gy, 1, none⟩ = some (.int .i64 yg) ∧ w'.cell? ⟨gy, 2, none⟩ = some (.int .i64 (128 - (m : Int)))) (with_reducible first | exact ⟨v0, v1, v2⟩ | exact far3 v0 v1 v2 (by omega) | exact kept3 v0 v1 v2 (allocB _ _) | exact ⟨x0, x1, x2⟩ | exact kept3 x0 x1 x2 (allocB _ _) | exact kept3 y0 y1 y2 (drewB _) | exact kept3 y0 y1 y2 (allocDB _ _) | exact kept3 y0 y1 y2 (alloc2DB _ _ _)) (first
            | (go_at_call 14; (first
              | (with_reducible refine (HRQ.out _ _ HC1.out).mono ?_; rintro e w5 ⟨g5, rfl, hh5, -, hb5⟩; have HH5 := Hid.mk hh5; have hb45 := bl2 HD1.out hb5; have HBx := Hid.mk (zxb w5); have HHx := Hid.mk (zxh hh5); have HZx := Hid.mk (zxr w5); have HBy := Hid.mk (bl2 (bl2 HB8.out hb45) (zxb w5)))
              | (with_reducible refine (HRQ.out _ _ HC2.out).mono ?_; rintro e w5 ⟨g5, rfl, hh5, -, hb5⟩; have HH5 := Hid.mk hh5; have hb45 := bl2 HD2.out hb5; have HZ5 := Hid.mk (HZ2.out.kept hb5))
              | (with_reducible refine (HRQ.out _ _ HC3.out).mono ?_; rintro e w5 ⟨g5, rfl, hh5, -, hb5⟩; have HH5 := Hid.mk hh5; have hb45 := bl2 HD3.out hb5; have HZ5 := Hid.mk (HZ3.out.kept hb5))); have HB5 := Hid.mk (bl2 HB8.out hb45); have HR5 := Hid.mk (HY8.out.kept hb45); have HQ5 := Hid.mk (HZ8.out.kept hb45); have q5 : gy < w5.heap.size := HR5.out.lt; have q6 : w7.heap.size < w5.heap.size := HQ5.out.lt; obtain ⟨x0, x1, x2⟩ := HR5.out.at; simp only at x0 x1 x2; clear hh5 hb5 hb45)
            | (go_at_call 6; first
              | (with_reducible refine (HA8.out w5 _ HH5.out HB5.out).mono ?_; rintro e w6 ⟨rfl, hb6⟩; have HZ6 := Hid.mk (HZ5.out.kept hb6); obtain ⟨⟨b0, b1, b2⟩, f0, f1, f2⟩ := HZ6.out.cells; simp only at b0 b1 b2; have HB6 := Hid.mk (bl2 HB5.out hb6); have HR6 := Hid.mk (HR5.out.kept hb6); have HQ6 := Hid.mk (HQ5.out.kept hb6); obtain ⟨v0, v1, v2⟩ := HR6.out.at; simp only at v0 v1 v2; clear hb6)
              | (with_reducible refine (HA8.out w5 _ HH5.out HB5.out).mono ?_; rintro e w6 ⟨rfl, hb6⟩; have HB6 := Hid.mk (bl2 HB5.out hb6); have HR6 := Hid.mk (HR5.out.kept hb6); have HQ6 := Hid.mk (HQ5.out.kept hb6); obtain ⟨v0, v1, v2⟩ := HR6.out.at; simp only at v0 v1 v2; clear hb6)
              | (with_reducible refine (HA8.out (w5.alloc (.cells #[.int .i64 0, .int .i64 0, .int .i64 0] 23)) _ HHx.out HBy.out).mono ?_; rintro e w6 ⟨rfl, hb6⟩; have HZ6 := Hid.mk (HZx.out.kept hb6); obtain ⟨⟨b0, b1, b2⟩, f0, f1, f2⟩ := HZ6.out.cells; simp only at b0 b1 b2; have HB6 := Hid.mk (bl2 HBy.out hb6); have HR6 := Hid.mk (HR5.out.kept (bl2 HBx.out hb6)); have HQ6 := Hid.mk (HQ5.out.kept (bl2 HBx.out hb6)); obtain ⟨v0, v1, v2⟩ := HR6.out.at; simp only at v0 v1 v2; clear hb6)))
          · go_wp2_with fail
            go_meet
            exact ⟨_, rfl, rfl, rfl, Hid.mk (HRow.box w6 ⟨0, 0, 0⟩), Hid.mk (HR6.out.kept (hbox w6 ⟨0, 0, 0⟩)), Hid.mk (HQ6.out.kept (hbox w6 ⟨0, 0, 0⟩)), Hid.mk (bl2 HB6.out (hbox w6 ⟨0, 0, 0⟩))⟩
          all_goals focus
            go_wp2_with fail
            go_meet
            exact ⟨_, rfl, rfl, rfl, Hid.mk (HZ6.out.set3 _ _ _), Hid.mk (HR6.out.other (tch3 _ _ _ _ _) (by omega)), Hid.mk (HQ6.out.other (tch3 _ _ _ _ _) (by omega)), Hid.mk (Tch.below HB6.out (tch3 _ _ _ _ _) (by have := HB8.out.size; have := HB5.out.size; simp; omega) (Nat.le_refl _))⟩
        case rest =>
          obtain ⟨gw, rfl, rfl, rfl, HW9, HY9, HZ9, HB9⟩ := hcut
          obtain ⟨x0, x1, x2⟩ := HW9.out.at
          obtain ⟨v0, v1, v2⟩ := HZ9.out.at
          obtain ⟨t0, t1, t2⟩ := HY9.out.at
          simp only at x0 x1 x2 v0 v1 v2 t0 t1 t2
          clear y0 y1 y2
          go_wp2_with fail
          go_ret
          exact ⟨rfl, HB9.out⟩
theorem hrest_any (hSt : StepIs) (hTe : StateIs) (hCk : CheckIs) (h : Hl) (p : Option Addr) (n c : Nat) (zs : List Int) (w : World) (hz : NumsH w p n zs) :
    Calls Tryd.prog 5 #[hV h, .slice p n c] w fun e w' => e = .returned (.bool true) ∧ Below w.heap.size w w' := by
  by_cases hE : stepE h zs = 0
  · unfold stepE at hE
    rcases Bool.eq_false_or_eq_true (okB h) with ho | ho
    · rw [if_pos ho] at hE
      by_cases hn : 1000 < zs.length
      · rw [if_pos hn] at hE; exact absurd hE (by decide)
      · rw [if_neg hn] at hE
        by_cases hb : badK zs < zs.length
        · rw [if_pos hb] at hE; exact absurd hE (by decide)
        · exact hrest_ok hSt hTe hCk h p n c zs w hz ((okB_iff h).1 ho) (by rw [← hz.1]; omega) (all_of_badK zs hb)
    · rw [if_neg (by rw [ho]; decide)] at hE; exact absurd hE (by decide)
  · exact hrest_bad hSt hTe hCk h p n c zs w hz hE
end Bw
end Go.Proofs.YtemjjkjceeljbaaDoor
