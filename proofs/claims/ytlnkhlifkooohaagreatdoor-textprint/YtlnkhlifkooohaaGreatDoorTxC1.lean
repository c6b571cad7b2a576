/- text.Parse of what is printed. -/
import Derived.Test.YtlnkhlifkooohaaGreatDoorTxB1
import Derived.Test.YtlnkhlifkooohaaGreatDoorMgF
import Derived.Test.YtlnkhlifkooohaaGreatDoorTxP
namespace Go.Proofs.YtlnkhlifkooohaaGreatDoor
open Go.ChangeShapes Go.WideShapes Go.ChangeAt Go.RowKit Go.Sort
namespace Bw
open Sm
theorem enter_chos : ∀ args w, (callFunc 116 args).run Tryz.prog w = .ok (.enter 116 args) w := enters_of Tryz.func116 (by kernel_rfl) rfl
set_option maxHeartbeats 2000000 in
set_option maxRecDepth 100000 in
theorem chosen1_any (x : Sig) (g : Nat) (wd : ByteArray) (w : World) (hg : w.cell? ⟨g, 6, none⟩ = some (.string wd)) :
    Calls Tryz.prog 116 (#[sgV x] ++ #[.pointer (some ⟨g, 0, none⟩)]) w fun e w' => e = .returned (.bool (x.nm.toList == wd.toList)) ∧ Below w.heap.size w w' := by
  have HB := Hid.mk (sg_box w x)
  have HG := cell_kept HB.out hg
  obtain ⟨nm, st, sz, bk, sg, mu, di, ad, ky⟩ := x
  unfold sgC at HB HG
  unfold sgV
  simp only at HB HG ⊢
  go_enter Tryz.func116, Tryz.ntmps116
  go_wp2_with fail
  go_ret
  exact ⟨rfl, HB.out⟩
theorem ch_res (tmps : Array Value) (w : World) (g : Nat) (c0 c1 c2 c3 c4 c5 y : Value) (hp : tmps.getD 2 undef = .pointer (some ⟨g, 0, none⟩)) (hy : tmps.getD 3 undef = y) (h : w.heap[g]? = some (.cells #[c0, c1, c2, c3, c4, c5] 24 (0, 0))) :
    (results Tryz.f70 tmps).run Tryz.prog w = .ok (.tuple #[.agg #[c0, c1, c2, c3, c4, c5], y]) w := by
  have hl := run_loadVar_row (P := Tryz.prog) w g 24 24 #[c0, c1, c2, c3, c4, c5] (0, 0) _ h Tryz.underlying24 rfl (by rw [ms6_i]; rfl)
  have hp' : tmps[2]?.getD undef = .pointer (some ⟨g, 0, none⟩) := by simpa using hp
  have hy' : tmps[3]?.getD undef = y := by simpa using hy
  simp [results, hp', hy', asAddr, hl]
set_option maxHeartbeats 4000000 in
set_option maxRecDepth 100000 in
theorem chosen_none (id : Int) (lo : Bool) (nm : ByteArray) (size : Int) (a : Option Addr) (n c : Nat) (w : World) :
    Calls Tryz.prog 70 #[.agg #[.int .i64 id, .bool lo, .string nm, .int .i64 size, .int .i64 0, .slice a n c, .string ⟨#[45]⟩]] w fun e w' => e = .returned (.tuple #[.agg #[.int .i64 id, .bool lo, .string nm, .int .i64 size, .int .i64 (-1), .slice a n c], .bool true]) ∧ Below w.heap.size w w' := by
  go_enter Tryz.func70, Tryz.ntmps70
  go_wp2_with fail
  refine bodyPost_ret (ch_res _ _ (w.heap.size + 1) (.int .i64 id) (.bool lo) (.string nm) (.int .i64 size) (.int .i64 (-1)) (.slice a n c) _ rfl rfl ?_) rfl ?_
  · have h := heap_alloc_new (w.alloc (.cells #[.int .i64 id, .bool lo, .string nm, .int .i64 size, .int .i64 0, .slice a n c, .string ⟨#[45]⟩] 117)) (.cells #[.int .i64 id, .bool lo, .string nm, .int .i64 size, .int .i64 (-1), .slice a n c] 24)
    have h2 := (awB1 ((w.alloc (.cells #[.int .i64 id, .bool lo, .string nm, .int .i64 size, .int .i64 0, .slice a n c, .string ⟨#[45]⟩] 117)).alloc (.cells #[.int .i64 id, .bool lo, .string nm, .int .i64 size, .int .i64 (-1), .slice a n c] 24)) (.cells #[.int .i64 id, .bool lo, .string nm, .int .i64 size, .int .i64 (-1), .slice a n c] 24)).block (w.heap.size + 1) (by simp)
    refine h2.trans ?_
    simpa using h
  exact ⟨rfl, bl2 (bl2 (awB1 w _) (awB1 _ _)) (awB1 _ _)⟩
/-- what stands while the drawn region of chosen runs -/
structure ChI (D Z : Array Value) (ch : Nat) (w W : World) (b0 b1 b2 b3 b4 b5 : Bool) (v3 v17 v18 v19 v20 : Value) : Prop where
  h2 : W.heap[w.heap.size + 1 + 1]? = some (.cells D 24 (0, 0))
  bel : Below w.heap.size w W
  o4 : b4 = false → W.heap[w.heap.size + 1]? = some (.cells Z 24 (0, 0))
  f4 : b4 = true → W.heap[w.heap.size + 1]? = some (.cells D 24 (0, 0))
  l0 : b0 = true → v17 = .agg D
  p1 : b1 = true → v18 = .pointer (some ⟨w.heap.size + 1 + 1, 4, none⟩)
  l2 : b2 = true → v19 = .int .i64 ch
  g3 : b3 = true → v20 = .bool true
  a5 : b5 = true → v3 = .bool true
set_option maxHeartbeats 4000000 in
set_option maxRecDepth 100000 in
theorem chosen_some (id : Int) (lo : Bool) (nm : ByteArray) (size : Int) (wd : ByteArray) (a : Option Addr) (n c : Nat) (l : List Sig) (ch : Nat) (w : World) (hF : IsSigs w a n c l) (hch : ch ≤ 1000) (hi : idxK (fun i => (l.getD i noS).nm.toList == wd.toList) n = ch) (hd : ¬ wd = (⟨#[45]⟩ : ByteArray)) :
    Calls Tryz.prog 70 #[.agg #[.int .i64 id, .bool lo, .string nm, .int .i64 size, .int .i64 0, .slice a n c, .string wd]] w fun e w' => e = .returned (.tuple #[.agg #[.int .i64 id, .bool lo, .string nm, .int .i64 size, .int .i64 ch, .slice a n c], .bool true]) ∧ Below w.heap.size w w' := by
  have hmf : ∀ (fn : Fn) (first cap : Array Value) (w : World), (Instr.makeFunc fn first cap).run Tryz.prog w = .ok (.func fn first cap) w := fun _ _ _ _ => rfl
  have x0 := str_lit (l := [45]) hd
  have HIX := Hid.mk (fun W (h : Below w.heap.size w W) (hg : W.cell? ⟨w.heap.size, 6, none⟩ = some (.string wd)) => indexFuncSg _ _ enter_chos (fun s => s.nm.toList == wd.toList) a n c l W (hF.kept h) (fun W' x hb' _ => chosen1_any x w.heap.size wd W' (cell_kept hb' hg)))
  rw [hi] at HIX
  clear hd hi hF
  go_enter Tryz.func70, Tryz.ntmps70
  go_wp2_with fail
  have HW : Hid (∀ W, Below (((w.alloc (.cells #[.int .i64 id, .bool lo, .string nm, .int .i64 size, .int .i64 0, .slice a n c, .string wd] 117)).alloc (.cells #[.int .i64 0, .bool false, .string ⟨#[]⟩, .int .i64 0, .int .i64 0, .slice none 0 0] 24)).alloc (.cells #[.int .i64 id, .bool lo, .string nm, .int .i64 size, .int .i64 0, .slice a n c] 24)).heap.size (((w.alloc (.cells #[.int .i64 id, .bool lo, .string nm, .int .i64 size, .int .i64 0, .slice a n c, .string wd] 117)).alloc (.cells #[.int .i64 0, .bool false, .string ⟨#[]⟩, .int .i64 0, .int .i64 0, .slice none 0 0] 24)).alloc (.cells #[.int .i64 id, .bool lo, .string nm, .int .i64 size, .int .i64 0, .slice a n c] 24)) W → Below w.heap.size w W ∧ W.cell? ⟨w.heap.size, 6, none⟩ = some (.string wd) ∧ W.heap[w.heap.size + 1]? = some (.cells #[.int .i64 0, .bool false, .string ⟨#[]⟩, .int .i64 0, .int .i64 0, .slice none 0 0] 24 (0, 0)) ∧ W.heap[w.heap.size + 1 + 1]? = some (.cells #[.int .i64 id, .bool lo, .string nm, .int .i64 size, .int .i64 0, .slice a n c] 24 (0, 0))) := Hid.mk (fun W h => by
    have n1 := heap_alloc_new w (.cells #[.int .i64 id, .bool lo, .string nm, .int .i64 size, .int .i64 0, .slice a n c, .string wd] 117)
    have a1 := awB1 w (.cells #[.int .i64 id, .bool lo, .string nm, .int .i64 size, .int .i64 0, .slice a n c, .string wd] 117)
    have z1 : (w.alloc (.cells #[.int .i64 id, .bool lo, .string nm, .int .i64 size, .int .i64 0, .slice a n c, .string wd] 117)).heap.size = w.heap.size + 1 := by simp
    generalize w.alloc (.cells #[.int .i64 id, .bool lo, .string nm, .int .i64 size, .int .i64 0, .slice a n c, .string wd] 117) = W1 at *
    have n2 := heap_alloc_new W1 (.cells #[.int .i64 0, .bool false, .string ⟨#[]⟩, .int .i64 0, .int .i64 0, .slice none 0 0] 24)
    have a2 := awB1 W1 (.cells #[.int .i64 0, .bool false, .string ⟨#[]⟩, .int .i64 0, .int .i64 0, .slice none 0 0] 24)
    have z2 : (W1.alloc (.cells #[.int .i64 0, .bool false, .string ⟨#[]⟩, .int .i64 0, .int .i64 0, .slice none 0 0] 24)).heap.size = w.heap.size + 1 + 1 := by simp [z1]
    generalize W1.alloc (.cells #[.int .i64 0, .bool false, .string ⟨#[]⟩, .int .i64 0, .int .i64 0, .slice none 0 0] 24) = W2 at *
    have n3 := heap_alloc_new W2 (.cells #[.int .i64 id, .bool lo, .string nm, .int .i64 size, .int .i64 0, .slice a n c] 24)
    have a3 := awB1 W2 (.cells #[.int .i64 id, .bool lo, .string nm, .int .i64 size, .int .i64 0, .slice a n c] 24)
    have z3 : (W2.alloc (.cells #[.int .i64 id, .bool lo, .string nm, .int .i64 size, .int .i64 0, .slice a n c] 24)).heap.size = w.heap.size + 1 + 1 + 1 := by simp [z2]
    generalize W2.alloc (.cells #[.int .i64 id, .bool lo, .string nm, .int .i64 size, .int .i64 0, .slice a n c] 24) = W3 at *
    rw [z1] at n2 a2
    rw [z2] at n3 a3
    rw [z3] at h
    have h1 := ((h.block w.heap.size (by omega)).trans ((a3.block w.heap.size (by omega)).trans ((a2.block w.heap.size (by omega)).trans n1)))
    have h2 := ((h.block (w.heap.size + 1) (by omega)).trans ((a3.block (w.heap.size + 1) (by omega)).trans n2))
    have h3 := ((h.block (w.heap.size + 1 + 1) (by omega)).trans n3)
    refine ⟨?_, (cell_of_row _ _ 6 _ _ _ h1).trans rfl, h2, h3⟩
    refine bl2 (bl2 (bl2 a1 (by rw [z1]; exact a2)) (by rw [z2]; exact a3)) (by rw [z3]; exact h))
  generalize (((w.alloc (.cells #[.int .i64 id, .bool lo, .string nm, .int .i64 size, .int .i64 0, .slice a n c, .string wd] 117)).alloc (.cells #[.int .i64 0, .bool false, .string ⟨#[]⟩, .int .i64 0, .int .i64 0, .slice none 0 0] 24)).alloc (.cells #[.int .i64 id, .bool lo, .string nm, .int .i64 size, .int .i64 0, .slice a n c] 24)) = W3 at *
  refine (HIX.out W3 (HW.out W3 (Below.refl _ _)).1 (HW.out W3 (Below.refl _ _)).2.1).mono ?_
  rintro e w1 ⟨rfl, hb1⟩
  obtain ⟨hbw, -, h1, h2⟩ := HW.out _ hb1
  have HBW := Hid.mk hbw
  have HZ := Hid.mk h1
  have HD := Hid.mk h2
  have c4 := cell_of_row _ _ 4 _ _ _ h2
  have f4 := frozen_of_row _ _ 4 _ _ h2
  simp only [List.getElem?_toArray, List.getElem?_cons_zero, List.getElem?_cons_succ] at c4
  have s2 := heap_setCell_same w1 (w.heap.size + 1 + 1) 4 _ _ (.int .i64 ch) h2
  have HS2 : Hid ((w1.setCell ⟨w.heap.size + 1 + 1, 4, none⟩ (.int .i64 ch)).heap[w.heap.size + 1 + 1]? = some (.cells #[.int .i64 id, .bool lo, .string nm, .int .i64 size, .int .i64 ch, .slice a n c] 24 (0, 0))) := Hid.mk (s2.trans rfl)
  have HS1 : Hid ((w1.setCell ⟨w.heap.size + 1 + 1, 4, none⟩ (.int .i64 ch)).heap[w.heap.size + 1]? = some (.cells #[.int .i64 0, .bool false, .string ⟨#[]⟩, .int .i64 0, .int .i64 0, .slice none 0 0] 24 (0, 0))) := Hid.mk ((heap_setCell_other w1 ⟨w.heap.size + 1 + 1, 4, none⟩ (w.heap.size + 1) (.int .i64 ch) (by simp)).trans h1)
  have HS0 : Hid (Below w.heap.size w (w1.setCell ⟨w.heap.size + 1 + 1, 4, none⟩ (.int .i64 ch))) := Hid.mk (hbw.setCell (p := ⟨w.heap.size + 1 + 1, 4, none⟩) (by show w.heap.size ≤ w.heap.size + 1 + 1; omega) _)
  have hch0 : (0 : Int) ≤ (ch : Int) := by omega
  clear hb1 hbw h1 h2 HW HIX x0 s2
  go_wp2_with fail
  clear c4 f4
  generalize w1.setCell ⟨w.heap.size + 1 + 1, 4, none⟩ (.int .i64 ch) = W6 at *
  refine wp_region_any (by kernel_rfl) ?_
  refine Oi.wpAny_start (fun l a' W => ∃ b0 b1 b2 b3 b4 b5 v3 v17 v18 v19 v20, l = #[b0, b1, b2, b3, b4, b5] ∧ a' = ⟨#[.agg #[.int .i64 id, .bool lo, .string nm, .int .i64 size, .int .i64 0, .slice a n c, .string wd], .pointer (some ⟨w.heap.size, 0, none⟩), .pointer (some ⟨w.heap.size + 1, 0, none⟩), v3, .pointer (some ⟨w.heap.size + 1 + 1, 0, none⟩), .pointer (some ⟨w.heap.size, 0, none⟩), .agg #[.int .i64 id, .bool lo, .string nm, .int .i64 size, .int .i64 0, .slice a n c], .pointer (some ⟨w.heap.size, 6, none⟩), .string wd, .bool false, undef, undef, .pointer (some ⟨w.heap.size + 1 + 1, 5, none⟩), .slice a n c, .func (.func 116) #[] #[.pointer (some ⟨w.heap.size, 0, none⟩)], .int .i64 ch, .pointer (some ⟨w.heap.size + 1 + 1, 4, none⟩), v17, v18, v19, v20], []⟩ ∧ ChI #[.int .i64 id, .bool lo, .string nm, .int .i64 size, .int .i64 ch, .slice a n c] #[.int .i64 0, .bool false, .string ⟨#[]⟩, .int .i64 0, .int .i64 0, .slice none 0 0] ch w W b0 b1 b2 b3 b4 b5 v3 v17 v18 v19 v20) #[false, false, false, false, false, false] rfl (by decide) ⟨false, false, false, false, false, false, .bool false, undef, undef, undef, undef, rfl, rfl, ?_⟩ ?_ ?_
  · exact ⟨HS2.out, HS0.out.trans ⟨rfl, rfl, rfl, Nat.le_refl _, fun _ _ => rfl⟩, fun _ => HS1.out, fun e => Bool.noConfusion e, fun e => Bool.noConfusion e, fun e => Bool.noConfusion e, fun e => Bool.noConfusion e, fun e => Bool.noConfusion e, fun e => Bool.noConfusion e⟩
  rotate_left
  · rintro l' a' W i o ⟨b0, b1, b2, b3, b4, b5, v3, v17, v18, v19, v20, rfl, rfl, hI⟩ h0 ho hall K hK
    have hi : i < 6 := (Array.getElem?_eq_some_iff.1 ho).1
    have hii : i = 0 ∨ i = 1 ∨ i = 2 ∨ i = 3 ∨ i = 4 ∨ i = 5 := by omega
    clear hi
    rcases hii with rfl | rfl | rfl | rfl | rfl | rfl
    · simp only [List.getElem?_toArray, List.getElem?_cons_zero, Option.some.injEq] at ho
      subst ho
      have HN : Hid (ChI #[.int .i64 id, .bool lo, .string nm, .int .i64 size, .int .i64 ch, .slice a n c] #[.int .i64 0, .bool false, .string ⟨#[]⟩, .int .i64 0, .int .i64 0, .slice none 0 0] ch w W true b1 b2 b3 b4 b5 v3 (.agg #[.int .i64 id, .bool lo, .string nm, .int .i64 size, .int .i64 ch, .slice a n c]) v18 v19 v20) := Hid.mk ⟨hI.h2, hI.bel, hI.o4, hI.f4, fun _ => rfl, hI.p1, hI.l2, hI.g3, hI.a5⟩
      have hl := run_loadVar_row (P := Tryz.prog) W (w.heap.size + 1 + 1) 24 24 #[.int .i64 id, .bool lo, .string nm, .int .i64 size, .int .i64 ch, .slice a n c] (0, 0) _ hI.h2 Tryz.underlying24 rfl (by rw [ms6_i]; rfl)
      have d0 := (cell_of_row _ _ 0 _ _ _ hI.h2).trans rfl
      have d1 := (cell_of_row _ _ 1 _ _ _ hI.h2).trans rfl
      have d2 := (cell_of_row _ _ 2 _ _ _ hI.h2).trans rfl
      have d3 := (cell_of_row _ _ 3 _ _ _ hI.h2).trans rfl
      have d4 := (cell_of_row _ _ 4 _ _ _ hI.h2).trans rfl
      have d5 := (cell_of_row _ _ 5 _ _ _ hI.h2).trans rfl
      simp only [List.getElem?_toArray, List.getElem?_cons_zero, List.getElem?_cons_succ] at d0 d1 d2 d3 d4 d5
      clear hall h0 hI
      go_simp
      exact hK.out _ _ ⟨_, _, _, _, _, _, _, _, _, _, _, rfl, rfl, HN.out⟩
    · simp only [List.getElem?_toArray, List.getElem?_cons_zero, List.getElem?_cons_succ, Option.some.injEq] at ho
      subst ho
      have HN : Hid (ChI #[.int .i64 id, .bool lo, .string nm, .int .i64 size, .int .i64 ch, .slice a n c] #[.int .i64 0, .bool false, .string ⟨#[]⟩, .int .i64 0, .int .i64 0, .slice none 0 0] ch w W b0 true b2 b3 b4 b5 v3 v17 (.pointer (some ⟨w.heap.size + 1 + 1, 4, none⟩)) v19 v20) := Hid.mk ⟨hI.h2, hI.bel, hI.o4, hI.f4, hI.l0, fun _ => rfl, hI.l2, hI.g3, hI.a5⟩
      clear hall h0 hI
      go_simp
      exact hK.out _ _ ⟨_, _, _, _, _, _, _, _, _, _, _, rfl, rfl, HN.out⟩
    · simp only [List.getElem?_toArray, List.getElem?_cons_zero, List.getElem?_cons_succ, Option.some.injEq] at ho
      subst ho
      have e1 : b1 = true := hall ⟨1, .data⟩ (by simp) rfl
      have hv := hI.p1 e1
      subst hv
      have HN : Hid (ChI #[.int .i64 id, .bool lo, .string nm, .int .i64 size, .int .i64 ch, .slice a n c] #[.int .i64 0, .bool false, .string ⟨#[]⟩, .int .i64 0, .int .i64 0, .slice none 0 0] ch w W b0 b1 true b3 b4 b5 v3 v17 (.pointer (some ⟨w.heap.size + 1 + 1, 4, none⟩)) (.int .i64 ch) v20) := Hid.mk ⟨hI.h2, hI.bel, hI.o4, hI.f4, hI.l0, hI.p1, fun _ => rfl, hI.g3, hI.a5⟩
      have d4 := cell_of_row _ _ 4 _ _ _ hI.h2
      simp only [List.getElem?_toArray, List.getElem?_cons_zero, List.getElem?_cons_succ] at d4
      clear hall h0 hI e1
      go_simp
      exact hK.out _ _ ⟨_, _, _, _, _, _, _, _, _, _, _, rfl, rfl, HN.out⟩
    · simp only [List.getElem?_toArray, List.getElem?_cons_zero, List.getElem?_cons_succ, Option.some.injEq] at ho
      subst ho
      have e2 : b2 = true := hall ⟨2, .data⟩ (by simp) rfl
      have hv := hI.l2 e2
      subst hv
      have HN : Hid (ChI #[.int .i64 id, .bool lo, .string nm, .int .i64 size, .int .i64 ch, .slice a n c] #[.int .i64 0, .bool false, .string ⟨#[]⟩, .int .i64 0, .int .i64 0, .slice none 0 0] ch w W b0 b1 b2 true b4 b5 v3 v17 v18 (.int .i64 ch) (.bool true)) := Hid.mk ⟨hI.h2, hI.bel, hI.o4, hI.f4, hI.l0, hI.p1, hI.l2, fun _ => rfl, hI.a5⟩
      clear hall h0 hI e2
      go_simp
      exact hK.out _ _ ⟨_, _, _, _, _, _, _, _, _, _, _, rfl, rfl, HN.out⟩
    · simp only [List.getElem?_toArray, List.getElem?_cons_zero, List.getElem?_cons_succ, Option.some.injEq] at ho
      subst ho
      have e0 : b0 = true := hall ⟨0, .data⟩ (by simp) rfl
      have e4 : b4 = false := h0
      have hv := hI.l0 e0
      subst hv
      refine step_store_row W rfl (.tmp 2) (.tmp 17) 24 rfl (w.heap.size + 1) 24 _ #[.int .i64 id, .bool lo, .string nm, .int .i64 size, .int .i64 ch, .slice a n c] rfl rfl (hI.o4 e4) ms6_i rfl (by simp [Value.oneCell']) ?_
      intro w8 hH8 hG8
      refine hK.out _ _ ⟨_, _, _, _, _, _, _, _, _, _, _, rfl, rfl, ?_⟩
      exact ⟨(hG8.block _ (lt_of_block hI.h2) (by simp)).trans hI.h2, Below.grown hI.bel hG8 hI.bel.size (fun q hq => by cases hq; exact Nat.le_add_right _ _), fun e => Bool.noConfusion e, fun _ => hH8, hI.l0, hI.p1, hI.l2, hI.g3, hI.a5⟩
    · simp only [List.getElem?_toArray, List.getElem?_cons_zero, List.getElem?_cons_succ, Option.some.injEq] at ho
      subst ho
      have e3 : b3 = true := hall ⟨3, .data⟩ (by simp) rfl
      have hv := hI.g3 e3
      subst hv
      have HN : Hid (ChI #[.int .i64 id, .bool lo, .string nm, .int .i64 size, .int .i64 ch, .slice a n c] #[.int .i64 0, .bool false, .string ⟨#[]⟩, .int .i64 0, .int .i64 0, .slice none 0 0] ch w W b0 b1 b2 b3 b4 true (.bool true) v17 v18 v19 (.bool true)) := Hid.mk ⟨hI.h2, hI.bel, hI.o4, hI.f4, hI.l0, hI.p1, hI.l2, hI.g3, fun _ => rfl⟩
      clear hall h0 hI e3
      go_simp
      exact hK.out _ _ ⟨_, _, _, _, _, _, _, _, _, _, _, rfl, rfl, HN.out⟩
  rintro l' a' W ⟨b0, b1, b2, b3, b4, b5, v3, v17, v18, v19, v20, rfl, rfl, hI⟩ hr
  cases b0 with
  | false => exact (Oi.ready_nil (i := 0) hr rfl rfl (by intro e he hb; simp at he; try (first | (rcases he with rfl <;> first | rfl | exact absurd hb (by decide) | exact absurd hb (by kernel_rfl)) | (rcases he with rfl | rfl <;> first | rfl | exact absurd hb (by decide) | exact absurd hb (by kernel_rfl)) | (rcases he with rfl | rfl | rfl <;> first | rfl | exact absurd hb (by decide) | exact absurd hb (by kernel_rfl)) | (subst he; rfl)))).elim
  | true =>
  cases b1 with
  | false => exact (Oi.ready_nil (i := 1) hr rfl rfl (by intro e he hb; simp at he; try (first | (rcases he with rfl <;> first | rfl | exact absurd hb (by decide) | exact absurd hb (by kernel_rfl)) | (rcases he with rfl | rfl <;> first | rfl | exact absurd hb (by decide) | exact absurd hb (by kernel_rfl)) | (rcases he with rfl | rfl | rfl <;> first | rfl | exact absurd hb (by decide) | exact absurd hb (by kernel_rfl)) | (subst he; rfl)))).elim
  | true =>
  cases b2 with
  | false => exact (Oi.ready_nil (i := 2) hr rfl rfl (by intro e he hb; simp at he; try (first | (rcases he with rfl <;> first | rfl | exact absurd hb (by decide) | exact absurd hb (by kernel_rfl)) | (rcases he with rfl | rfl <;> first | rfl | exact absurd hb (by decide) | exact absurd hb (by kernel_rfl)) | (rcases he with rfl | rfl | rfl <;> first | rfl | exact absurd hb (by decide) | exact absurd hb (by kernel_rfl)) | (rcases he with rfl | rfl | rfl | rfl <;> first | rfl | exact absurd hb (by decide) | exact absurd hb (by kernel_rfl)) | (subst he; rfl)))).elim
  | true =>
  cases b3 with
  | false => exact (Oi.ready_nil (i := 3) hr rfl rfl (by intro e he hb; simp at he; try (first | (rcases he with rfl <;> first | rfl | exact absurd hb (by decide) | exact absurd hb (by kernel_rfl)) | (rcases he with rfl | rfl <;> first | rfl | exact absurd hb (by decide) | exact absurd hb (by kernel_rfl)) | (rcases he with rfl | rfl | rfl <;> first | rfl | exact absurd hb (by decide) | exact absurd hb (by kernel_rfl)) | (rcases he with rfl | rfl | rfl | rfl <;> first | rfl | exact absurd hb (by decide) | exact absurd hb (by kernel_rfl)) | (subst he; rfl)))).elim
  | true =>
  cases b4 with
  | false => exact (Oi.ready_nil (i := 4) hr rfl rfl (by intro e he hb; simp at he; try (first | (rcases he with rfl <;> first | rfl | exact absurd hb (by decide) | exact absurd hb (by kernel_rfl)) | (rcases he with rfl | rfl <;> first | rfl | exact absurd hb (by decide) | exact absurd hb (by kernel_rfl)) | (rcases he with rfl | rfl | rfl <;> first | rfl | exact absurd hb (by decide) | exact absurd hb (by kernel_rfl)) | (rcases he with rfl | rfl | rfl | rfl <;> first | rfl | exact absurd hb (by decide) | exact absurd hb (by kernel_rfl)) | (rcases he with rfl | rfl | rfl | rfl | rfl <;> first | rfl | exact absurd hb (by decide) | exact absurd hb (by kernel_rfl)) | (rcases he with rfl | rfl | rfl | rfl | rfl | rfl <;> first | rfl | exact absurd hb (by decide) | exact absurd hb (by kernel_rfl)) | (rcases he with rfl | rfl | rfl | rfl | rfl | rfl | rfl <;> first | rfl | exact absurd hb (by decide) | exact absurd hb (by kernel_rfl)) | (subst he; rfl)))).elim
  | true =>
  cases b5 with
  | false => exact (Oi.ready_nil (i := 5) hr rfl rfl (by intro e he hb; simp at he; try (first | (rcases he with rfl <;> first | rfl | exact absurd hb (by decide) | exact absurd hb (by kernel_rfl)) | (rcases he with rfl | rfl <;> first | rfl | exact absurd hb (by decide) | exact absurd hb (by kernel_rfl)) | (rcases he with rfl | rfl | rfl <;> first | rfl | exact absurd hb (by decide) | exact absurd hb (by kernel_rfl)) | (rcases he with rfl | rfl | rfl | rfl <;> first | rfl | exact absurd hb (by decide) | exact absurd hb (by kernel_rfl)) | (rcases he with rfl | rfl | rfl | rfl | rfl <;> first | rfl | exact absurd hb (by decide) | exact absurd hb (by kernel_rfl)) | (rcases he with rfl | rfl | rfl | rfl | rfl | rfl <;> first | rfl | exact absurd hb (by decide) | exact absurd hb (by kernel_rfl)) | (rcases he with rfl | rfl | rfl | rfl | rfl | rfl | rfl <;> first | rfl | exact absurd hb (by decide) | exact absurd hb (by kernel_rfl)) | (rcases he with rfl | rfl | rfl | rfl | rfl | rfl | rfl | rfl <;> first | rfl | exact absurd hb (by decide) | exact absurd hb (by kernel_rfl)) | (rcases he with rfl | rfl | rfl | rfl | rfl | rfl | rfl | rfl | rfl <;> first | rfl | exact absurd hb (by decide) | exact absurd hb (by kernel_rfl)) | (rcases he with rfl | rfl | rfl | rfl | rfl | rfl | rfl | rfl | rfl | rfl <;> first | rfl | exact absurd hb (by decide) | exact absurd hb (by kernel_rfl)) | (subst he; rfl)))).elim
  | true =>
  have hv1 := hI.l0 rfl
  have hv2 := hI.p1 rfl
  have hv3 := hI.l2 rfl
  have hv4 := hI.g3 rfl
  have hv5 := hI.a5 rfl
  have HFIN := Hid.mk (hI.f4 rfl)
  have HBF := Hid.mk hI.bel
  subst hv1 hv2 hv3 hv4 hv5
  clear hI hr
  go_wp2_with fail
  refine bodyPost_ret (ch_res _ _ (w.heap.size + 1) _ _ _ _ _ _ _ rfl rfl HFIN.out) rfl ?_
  exact ⟨rfl, HBF.out⟩
end Bw
end Go.Proofs.YtlnkhlifkooohaaGreatDoor
namespace Go.Proofs.YtlnkhlifkooohaaGreatDoor
open Go.ChangeShapes Go.WideShapes Go.ChangeAt Go.RowKit Go.Sort
namespace Bw
open Sm
theorem bs_ne {a b : ByteArray} (h : a ≠ b) : (a.toList == b.toList) = false := by
  rw [beq_eq_false_iff_ne]
  intro e
  rw [ByteArray.toList_eq, ByteArray.toList_eq] at e
  exact h (by rw [← bA_of a, ← bA_of b, e])
theorem chosen_any (m : Msg) (a : Option Addr) (n c : Nat) (w : World) (hO : OkM m) (hF : IsSigs w a n c m.sigs) :
    Calls Tryz.prog 70 #[.agg #[.int .i64 m.id, .bool m.lo, .string m.nm, .int .i64 m.size, .int .i64 0, .slice a n c, .string (bA (chL m))]] w fun e w' => e = .returned (.tuple #[.agg #[.int .i64 m.id, .bool m.lo, .string m.nm, .int .i64 m.size, .int .i64 m.ch, .slice a n c], .bool true]) ∧ Below w.heap.size w w' := by
  have h0 := hO.ch0
  have h1 := hO.ch1
  have hlen := hF.len
  have hm := hO.many
  by_cases hc : 0 ≤ m.ch
  · obtain ⟨ch, hch⟩ : ∃ ch : Nat, m.ch = ch := ⟨m.ch.toNat, by omega⟩
    have hlt : ch < m.sigs.length := by omega
    have e : bA (chL m) = (m.at ch).nm := by
      unfold chL
      rw [if_pos hc, hch, Int.toNat_natCast, bA_of]
    have hnm := (mb_of hO).sb _ (m.mem hlt)
    rw [e, hch]
    refine chosen_some m.id m.lo m.nm m.size (m.at ch).nm a n c m.sigs ch w hF (by omega) ?_ (fun e2 => ?_)
    · refine idxK_hit (fun j hj => ?_) ?_ (by omega)
      · exact bs_ne (hO.apart (by omega) hlt (by omega))
      · show ((m.at ch).nm.toList == (m.at ch).nm.toList) = true
        exact bb_eq _
    · have h2 := hnm.nm
      rw [e2] at h2
      exact absurd h2 (by decide)
  · have e : m.ch = -1 := by omega
    have e2 : bA (chL m) = ⟨#[45]⟩ := by unfold chL; rw [if_neg hc]; rfl
    rw [e, e2]
    exact chosen_none m.id m.lo m.nm m.size a n c w
theorem drs_get : ∀ (l : List (Dr × Value)) (k : Nat) (hk : k < l.length) (j : Nat), j < 7 → (drsC l)[k * 7 + j]? = (drCl l[k])[j]?
  | x :: l, 0, _, j, hj => by
    rw [show drsC (x :: l) = drCl x ++ drsC l by simp [drsC], Nat.zero_mul, Nat.zero_add, List.getElem?_append_left (by simp [drCl]; omega)]
    rfl
  | x :: l, k + 1, hk, j, hj => by
    rw [show drsC (x :: l) = drCl x ++ drsC l by simp [drsC], List.getElem?_append_right (by simp [drCl]; omega), show (k + 1) * 7 + j - (drCl x).length = k * 7 + j by simp [drCl]; omega]
    exact drs_get l k (by simpa using hk) j hj
/-- the drafts of a reader, one by one -/
theorem RdS.drafts {w : World} {g base Bm : Nat} {ln : Int} {v : Value} {pre : List (Dr × Value)} {cur : Option (Dr × Value)} (h : RdS w g base Bm ln v pre cur) {n : Nat} (hn : (pre ++ cur.toList).length = n) {k : Nat} (hk : k < n) : ∃ gv cap sa sn sc, v = .slice (some ⟨gv, 0, none⟩) n cap ∧ ((pre ++ cur.toList)[k]'(by omega)).2 = .slice sa sn sc ∧ IsSigs w sa sn sc ((pre ++ cur.toList)[k]'(by omega)).1.sigs ∧ ∀ j x, (drCl ((pre ++ cur.toList)[k]'(by omega)))[j]? = some x → w.cell? ⟨gv, k * 7 + j, none⟩ = some x := by
  have hk' : k < (pre ++ cur.toList).length := by omega
  have hrow := h.lastD _ (List.getElem_mem hk')
  obtain ⟨sa, sc, hs, hI⟩ := sgs_own hrow rfl
  obtain ⟨h1, h2⟩ := h.own
  rw [hn] at h2
  rcases h2 with ⟨_, h0⟩ | ⟨gv, cap, cs, hv, hb, hg, hc, hm, hsz, ht⟩
  · omega
  · refine ⟨gv, cap, sa, _, sc, hv, hs, hI, fun j x hx => ?_⟩
    have hj : j < 7 := by
      have := (List.getElem?_eq_some_iff.1 hx).1
      simpa [drCl] using this
    have h3 := drs_get _ k hk' j hj
    rw [hx, ← ht, List.getElem?_take_of_lt (by omega)] at h3
    rw [cell_of_row _ _ _ _ _ _ hg, ← Array.getElem?_toList, h3]
end Bw
end Go.Proofs.YtlnkhlifkooohaaGreatDoor
namespace Go.Proofs.YtlnkhlifkooohaaGreatDoor
open Go.ChangeShapes Go.WideShapes Go.ChangeAt Go.RowKit Go.Sort
namespace Bw
open Sm
def msgsC (l : List MsV) : List Value := l.flatMap msCl
theorem msgsC_snoc (l : List MsV) (x : MsV) : msgsC (l ++ [x]) = msgsC l ++ msCl x := by simp [msgsC]
theorem items_len (l : List Msg) (h : ∀ m ∈ l, m.sigs.length ≤ 16) : (items l).length ≤ 17 * l.length := by
  induction l with
  | nil => simp [items]
  | cons m l ih =>
    have h1 := h m (by simp)
    have h2 := ih (fun x hx => h x (by simp [hx]))
    rw [show items (m :: l) = itemsM m ++ items l by simp [items], List.length_append, List.length_cons, show (itemsM m).length = m.sigs.length + 1 by simp [itemsM]]
    omega
theorem items_ok {l : List Msg} (h : ∀ m ∈ l, MB m) : ∀ x ∈ items l, x.ok := fun x hx => by
  unfold items at hx
  rw [List.mem_flatMap] at hx
  obtain ⟨m, hm, hx⟩ := hx
  unfold itemsM at hx
  rw [List.mem_cons] at hx
  rcases hx with rfl | hx
  · exact h m hm
  · rw [List.mem_map] at hx
    obtain ⟨s, hs, rfl⟩ := hx
    exact (h m hm).sb s hs
theorem foldl_some : ∀ (l : List Ln) (x : List Dr × Option Dr), x.2 ≠ none → (l.foldl stepD x).2 ≠ none
  | [], x, h => h
  | y :: l, x, h => by
    rw [List.foldl_cons]
    refine foldl_some l _ ?_
    cases y with
    | ms m => simp [stepD]
    | sg s =>
      obtain ⟨p, c⟩ := x
      cases c with
      | none => exact absurd rfl h
      | some d => simp [stepD]
theorem items_fit (l : List Msg) (k : Nat) (h : k < (items l).length) (s : Sig) (hs : (items l)[k] = .sg s) : (foldD ((items l).take k)).2 ≠ none := by
  cases l with
  | nil => simp [items] at h
  | cons m l =>
    cases k with
    | zero => simp [items, itemsM] at hs
    | succ k =>
      rw [show items (m :: l) = .ms m :: (m.sigs.map .sg ++ items l) by simp [items, itemsM], List.take_succ_cons]
      show (List.foldl stepD ([], none) (_ :: _)).2 ≠ none
      rw [List.foldl_cons]
      exact foldl_some _ _ (by simp [stepD])
theorem info_ms : (Tryz.prog.info? 24).map (fun i => (i.zero, i.size, i.bytes)) = some (some (.agg #[.int .i64 0, .bool false, .string ⟨#[]⟩, .int .i64 0, .int .i64 0, .slice none 0 0]), 6, 72) := by kernel_rfl
theorem msgs_get : ∀ (l : List MsV) (k : Nat) (hk : k < l.length) (j : Nat), j < 6 → (msgsC l)[k * 6 + j]? = (msCl l[k])[j]?
  | x :: l, 0, _, j, hj => by
    rw [show msgsC (x :: l) = msCl x ++ msgsC l by simp [msgsC], Nat.zero_mul, Nat.zero_add, List.getElem?_append_left (by simp [msCl]; omega)]
    rfl
  | x :: l, k + 1, hk, j, hj => by
    rw [show msgsC (x :: l) = msCl x ++ msgsC l by simp [msgsC], List.getElem?_append_right (by simp [msCl]; omega), show (k + 1) * 6 + j - (msCl x).length = k * 6 + j by simp [msCl]; omega]
    exact msgs_get l k (by simpa using hk) j hj
/-- a row of messages of one's own -/
theorem msgs_own {w : World} {base : Nat} {u : Value} {n : Nat} {l : List MsV} (h : w.ownsRow base 24 6 u n (msgsC l)) (hn : l.length = n) : ∃ a c, u = .slice a n c ∧ IsCl msCl 6 w a n c l := by
  rcases h.2 with ⟨h1, h0⟩ | ⟨g, cap, cs, hv, hb, hg, hc, hm, hs, ht⟩
  · subst h0
    exact ⟨none, 0, h1, hn, Nat.le_refl _, Nat.zero_le _, fun _ => rfl, fun x hx => (by cases hx)⟩
  · refine ⟨_, cap, hv, hn, hc, hm, fun e => (by cases e), fun x hx i hi k hk => ?_⟩
    cases hx
    have h3 := msgs_get l i hi k hk
    rw [← ht, List.getElem?_take_of_lt (by omega)] at h3
    rw [show (⟨g, 0, none⟩ : Addr).add (i * 6 + k) = ⟨g, i * 6 + k, none⟩ by simp [Addr.add]; intro h1 h2; omega, cell_of_row _ _ _ _ _ _ hg, ← Array.getElem?_toList, h3]
theorem pr_res (tmps : Array Value) (w : World) (x y z : Value) (hx : tmps.getD 2 undef = x) (hy : tmps.getD 3 undef = y) (hz : tmps.getD 4 undef = z) :
    (results Tryz.f24 tmps).run Tryz.prog w = .ok (.tuple #[x, y, z]) w := by
  have hx' : tmps[2]?.getD undef = x := by simpa using hx
  have hy' : tmps[3]?.getD undef = y := by simpa using hy
  have hz' : tmps[4]?.getD undef = z := by simpa using hz
  simp [results, hx', hy', hz']
set_option maxHeartbeats 8000000 in
set_option maxRecDepth 100000 in
theorem parse_ok (l : List Msg) (n : Nat) (w : World) (hn : l.length = n) (hT : TxT w) (hS : SizesAt w) (h20 : n ≤ 20) (hO : ∀ m ∈ l, OkM m) (hlen : (textT l).length ≤ 4000) (hchk : ∀ vs : List MsV, msL vs = l → chkA vs = 0) :
    Calls Tryz.prog 24 #[.string (bA (textT l))] w fun e w' => ∃ a c vs, e = .returned (.tuple #[.slice a n c, .int .i64 0, .int .i64 0]) ∧ Hid (IsMsgs w' a n c vs) ∧ msL vs = l ∧ Hid (Below w.heap.size w w') := by
  have HRD := Hid.mk (read_ok (items l) (items l).length w rfl hT (items_ok fun m hm => mb_of (hO m hm)) (items_fit l) (by rw [lnsT_items]; omega) (by have h := items_len l (fun m hm => (hO m hm).many); omega))
  rw [lnsT_items] at HRD
  have hz : (bA (textT l)).size ≤ 4000 := by rw [bA_size]; exact hlen
  have hz' : ¬ ((4000 : Int) < ((bA (textT l)).size : Int)) := by omega
  have HFD : Hid (∀ pre cur, shp pre cur = foldD (items l) → (pre ++ cur.toList).map (·.1) = l.map drOf) := Hid.mk (fun pre cur h => by
    have h1 := foldl_items l ([], none)
    have h2 : (shp pre cur).1 ++ (shp pre cur).2.toList = l.map drOf := by rw [h]; unfold foldD; simpa using h1
    rw [← h2]
    cases cur <;> simp [shp])
  have HO := Hid.mk hO
  have HN := Hid.mk hn
  have HCK := Hid.mk hchk
  have HSS := Hid.mk hS
  clear hO hn hchk hS hT hlen
  generalize bA (textT l) = X at *
  go_enter Tryz.func24, Tryz.ntmps24
  go_wp2_with fail
  refine HRD.out.mono ?_
  rintro e w1 ⟨v, pre, cur, Bm, rfl, HR, HSH, HB⟩
  have HL := Hid.mk (HFD.out _ _ HSH.out)
  have hln : (pre ++ cur.toList).length = n := by
    have h := congrArg List.length HL.out
    rw [List.length_map, List.length_map, HN.out] at h
    exact h
  obtain ⟨va, vn, vc, hv⟩ := owns_slice HR.out.own
  have hvn : vn = n := by
    have h := HR.out.own
    rw [hv, hln] at h
    rcases h.2 with ⟨h1, h2⟩ | ⟨gv, cap, cs, h1, _⟩
    · injection h1 with _ h3 _
      omega
    · injection h1
  subst hv
  subst hvn
  obtain ⟨i0, hi, hz0, hz1, hz2⟩ := info_parts info_ms
  have HK1 : Hid (∀ W, Below w1.heap.size w1 W → RdS W (w.heap.size + 3) (w.heap.size + 3) Bm (items l).length (.slice va vn vc) pre cur) := Hid.mk (fun W h => HR.out.kept h)
  have hvn' : (vn : Int) ≤ 20 := by omega
  have HLN := Hid.mk hln
  clear HRD HFD hz hz' hln HR
  go_wp2_with fail
  go_loopw [2, 26] (fun u i wr => ∃ k : Nat, k ≤ vn ∧ i = .int .i64 k ∧ ∃ vs : List MsV, Hid (wr.ownsRow w1.heap.size 24 6 u k (msgsC vs)) ∧ Hid (msL vs = l.take k) ∧ Hid (∀ v ∈ vs, MsIn w1 v) ∧ Hid (Below w1.heap.size w1 wr)) (fun _ i _ => vn - (intOf i).toNat)
  case atStart => exact ⟨0, Nat.zero_le _, rfl, [], Hid.mk ⟨rfl, .inl ⟨rfl, rfl⟩⟩, Hid.mk rfl, Hid.mk (fun v hv => by simp at hv), Hid.mk (Below.refl _ _)⟩
  case round =>
    obtain ⟨k, hk, rfl, vs, HU, HV, HIN, HBr⟩ := hrel
    by_cases hlt : k < vn
    · have hlt' : (k : Int) < (vn : Int) := by omega
      have hkl : k < l.length := by rw [HN.out]; exact hlt
      have hkp : k < (pre ++ cur.toList).length := by rw [HLN.out]; exact hlt
      obtain ⟨gv, cap, sa, sn, sc, hv, hu, -, hcells⟩ := (HK1.out _ HBr.out).drafts HLN.out hlt
      obtain ⟨_, _, sa', sn', sc', -, hu', hsig, -⟩ := (HK1.out _ (Below.refl _ _)).drafts HLN.out hlt
      have hd : ((pre ++ cur.toList)[k]'hkp).1 = drOf l[k] := by
        have h := HL.out
        have h2 : ((pre ++ cur.toList).map (·.1))[k]? = (l.map drOf)[k]? := by rw [h]
        rw [List.getElem?_map, List.getElem?_map, List.getElem?_eq_getElem hkp, List.getElem?_eq_getElem hkl] at h2
        simpa using h2
      have HOm := Hid.mk (HO.out _ (List.getElem_mem hkl))
      have HTK : Hid (l.take (k + 1) = l.take k ++ [l[k]]) := Hid.mk (List.take_succ_eq_append_getElem hkl)
      rw [hu] at hu'
      injection hu' with q1 q2 q3
      subst q1 q2 q3
      unfold drCl at hcells
      rw [hd] at hsig hcells
      rw [hu] at hcells
      clear hd hu
      generalize l[k] = m at *
      have HSG := Hid.mk hsig
      have HCH := Hid.mk (fun W (h : Below w1.heap.size w1 W) => chosen_any m sa sn sc W HOm.out (HSG.out.kept h))
      have HMI : Hid (MsIn w1 ⟨m, sa, sn, sc⟩) := Hid.mk ⟨by
        have h := (nm_len (mb_of HOm.out).nm).2
        show m.nm.size ≤ _
        have : m.nm.size = m.nm.data.toList.length := rfl
        omega, HSG.out, fun s hs => by
        have h := (mb_of HOm.out).sb s hs
        refine ⟨⟨by have := h.st0; omega, by have := h.st1; omega⟩, ?_⟩
        have h2 := (nm_len h.nm).2
        have : s.nm.size = s.nm.data.toList.length := rfl
        omega⟩
      injection hv with v1 v2 v3
      subst v1 v3
      have HHE := Hid.mk hcells
      have d0 := hcells 0 _ rfl
      rw [Nat.add_zero] at d0
      have d1 := hcells 1 _ rfl
      have d2 := hcells 2 _ rfl
      have d3 := hcells 3 _ rfl
      have d4 := hcells 4 _ rfl
      have d5 := hcells 5 _ rfl
      have d6 := hcells 6 _ rfl
      clear hcells hsig
      simp only [drOf] at d0 d1 d2 d3 d4 d5 d6
      generalize bA (chL m) = XC at *
      obtain ⟨id, lo, nm, size, ch, sigs⟩ := m
      simp only at d0 d1 d2 d3 d4 d5 d6 HCH
      have HA1 : Hid (Below w1.heap.size w1 (wr.alloc (.cells #[.int .i64 id, .bool lo, .string nm, .int .i64 size, .int .i64 0, .slice sa sn sc, .string XC] 117))) := Hid.mk (HBr.out.alloc HBr.out.size _)
      have HU1 := Hid.mk (HU.out.alloc (.cells #[.int .i64 id, .bool lo, .string nm, .int .i64 size, .int .i64 0, .slice sa sn sc, .string XC] 117))
      have HUs := Hid.mk (fun W (h : Below (wr.alloc (.cells #[.int .i64 id, .bool lo, .string nm, .int .i64 size, .int .i64 0, .slice sa sn sc, .string XC] 117)).heap.size (wr.alloc (.cells #[.int .i64 id, .bool lo, .string nm, .int .i64 size, .int .i64 0, .slice sa sn sc, .string XC] 117)) W) => owns_keep HU1.out (fun q hq => h.block q (owns_lt HU1.out hq).2.1))
      go_wp2_with fail
      clear d0 d1 d2 d3 d4 d5 d6
      generalize wr.alloc (.cells #[.int .i64 id, .bool lo, .string nm, .int .i64 size, .int .i64 0, .slice sa sn sc, .string XC] 117) = wa at *
      refine (HCH.out _ HA1.out).mono ?_
      rintro e w3 ⟨rfl, hb3⟩
      have HO3 := Hid.mk (HUs.out _ hb3)
      have HB3 : Hid (Below w1.heap.size w1 w3) := Hid.mk (HA1.out.trans ⟨hb3.os, hb3.tape, hb3.output, hb3.size, fun j hj => hb3.block j (by have := HA1.out.size; omega)⟩)
      clear hb3 HUs HU1
      have HO4 := Hid.mk ((HO3.out.alloc (.cells #[.int .i64 id, .bool lo, .string nm, .int .i64 size, .int .i64 ch, .slice sa sn sc] 24)).alloc (.cells #[.int .i64 id, .bool lo, .string nm, .int .i64 size, .int .i64 ch, .slice sa sn sc] 24))
      have HB4 : Hid (Below w1.heap.size w1 ((w3.alloc (.cells #[.int .i64 id, .bool lo, .string nm, .int .i64 size, .int .i64 ch, .slice sa sn sc] 24)).alloc (.cells #[.int .i64 id, .bool lo, .string nm, .int .i64 size, .int .i64 ch, .slice sa sn sc] 24))) := Hid.mk ((HB3.out.alloc HB3.out.size _).alloc (HB3.out.alloc HB3.out.size _).size _)
      go_wp2_with (at_builtin; refine wpList_append_own _ rfl (.tmp 37) (.tmp 39) 51 rfl w1.heap.size 24 i0 (.agg #[.int .i64 0, .bool false, .string ⟨#[]⟩, .int .i64 0, .int .i64 0, .slice none 0 0]) 6 72 Tryz.underlying51 hi hz0 hz1 hz2 rfl (by decide) _ _ _ rfl HO4.out ⟨w3.heap.size + 1, 0, none⟩ 1 1 [Value.int .i64 id, Value.bool lo, Value.string nm, Value.int .i64 size, Value.int .i64 ch, Value.slice sa sn sc] rfl rfl (by intro k u hk; match k, hk with | 0, hk => (simp at hk; subst hk; simp [Addr.add]) | 1, hk => (simp at hk; subst hk; simp [Addr.add]) | 2, hk => (simp at hk; subst hk; simp [Addr.add]) | 3, hk => (simp at hk; subst hk; simp [Addr.add]) | 4, hk => (simp at hk; subst hk; simp [Addr.add]) | 5, hk => (simp at hk; subst hk; simp [Addr.add])) (by intro u hu; simp at hu; rcases hu with rfl | rfl | rfl | rfl | rfl | rfl <;> rfl) (by unfold maxLen; omega) (by omega) HB4.out.size ?_; intro v5 w5 hown5 hgrow5 _)
      have HB5 : Hid (Below w1.heap.size w1 w5) := Hid.mk (Below.grown HB4.out hgrow5 HB4.out.size (fun q hq => (owns_lt HO4.out hq).1))
      have HO5 : Hid (w5.ownsRow w1.heap.size 24 6 v5 (k + 1) (msgsC (vs ++ [⟨⟨id, lo, nm, size, ch, sigs⟩, sa, sn, sc⟩]))) := Hid.mk (by rw [msgsC_snoc]; exact hown5)
      clear hown5 hgrow5 HO4 HB4
      go_roundw
      case rel =>
        refine ⟨k + 1, by omega, by go_num, vs ++ [⟨⟨id, lo, nm, size, ch, sigs⟩, sa, sn, sc⟩], HO5, Hid.mk ?_, Hid.mk ?_, HB5⟩
        · rw [HTK.out, ← HV.out]
          simp [msL]
        · intro v hv
          rw [List.mem_append, List.mem_singleton] at hv
          rcases hv with hv | rfl
          · exact HIN.out v hv
          · exact HMI.out
      case measure => simp [intOf]; omega
    · have e : k = vn := by omega
      subst e
      have ht : l.take k = l := List.take_of_length_le (by rw [HN.out]; exact Nat.le_refl _)
      rw [ht] at HV
      have hvl : vs.length = k := by
        have h := congrArg List.length HV.out
        unfold msL at h
        rw [List.length_map, HN.out] at h
        exact h
      obtain ⟨ra, rc, hr, hcl⟩ := msgs_own HU.out hvl
      have HIM : Hid (IsMsgs wr ra k rc vs) := Hid.mk ⟨hcl, fun v hv => (HIN.out v hv).kept HBr.out⟩
      subst hr
      have HBw : Hid (Below w.heap.size w wr) := Hid.mk (bl2 HB.out HBr.out)
      have HCA := Hid.mk (checkAll_any ra k rc vs wr HIM.out (HSS.out.kept HBw.out))
      rw [HCK.out _ HV.out] at HCA
      clear ht hvl hcl
      go_wp2_with fail
      refine HCA.out.mono ?_
      rintro e w2 ⟨rfl, hb2⟩
      have HI2 := Hid.mk (HIM.out.kept hb2)
      have HB2 : Hid (Below w.heap.size w w2) := Hid.mk (bl2 HBw.out hb2)
      clear hb2
      go_wp2_with fail
      refine bodyPost_ret (pr_res _ _ _ _ _ rfl rfl rfl) rfl ?_
      exact ⟨ra, rc, vs, rfl, HI2, HV.out, HB2⟩
end Bw
end Go.Proofs.YtlnkhlifkooohaaGreatDoor
