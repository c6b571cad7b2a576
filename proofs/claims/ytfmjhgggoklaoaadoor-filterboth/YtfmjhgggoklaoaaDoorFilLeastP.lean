/- What filter.Least answers. -/
import Derived.Test.YtfmjhgggoklaoaaDoorFilCount
import Derived.Test.YtfmjhgggoklaoaaDoorFilRanges
import Derived.Test.YtfmjhgggoklaoaaDoorAppTwo
namespace Go.Proofs.YtfmjhgggoklaoaaDoor
open Go.ChangeShapes Go.WideShapes Go.ChangeAt Go.RowKit
namespace Bw
def Fl.n (x : Fl) : Fn := ⟨x.w.toNat, x.m.toNat, x.lo⟩
theorem f_n (x : Fn) : x.f.n = x := by unfold Fn.f Fl.n; simp
set_option maxHeartbeats 2000000 in
theorem hold1_any (x y : Fn) (g : Nat) (w : World) (hx : okN x) (hy : okN y) (hG : FlAt w g x.f) :
    Calls Tryd.prog 30 #[y.f.val, .pointer (some ⟨g, 0, none⟩)] w fun e w' => e = .returned (.bool (holdsN y x)) ∧ Below w.heap.size w w' := by
  have hb := box1_below w y.f
  obtain ⟨c0, c1, c2⟩ := hG.kept hb
  have HH := Hid.mk (fun W => holds_any y x W hy hx)
  have HB := Hid.mk hb
  clear hx hy hG hb
  unfold box1 at c0 c1 c2 HB
  unfold Fn.f Fl.val at *
  simp only at HB HH c0 c1 c2 ⊢
  go_enter Tryd.func30, Tryd.ntmps30
  go_wp2_with fail
  refine (HH.out _).mono ?_
  rintro e w1 ⟨rfl, hb1⟩
  have HB1 := Hid.mk (bl2 HB.out hb1)
  clear hb1
  go_wp2_with fail
  go_ret
  exact ⟨rfl, HB1.out⟩
set_option maxHeartbeats 2000000 in
theorem hold2_any (x y : Fn) (g : Nat) (w : World) (hx : okN x) (hy : okN y) (hG : FlAt w g x.f) :
    Calls Tryd.prog 31 #[y.f.val, .pointer (some ⟨g, 0, none⟩)] w fun e w' => e = .returned (.bool (holdsN y x && !holdsN x y)) ∧ Below w.heap.size w w' := by
  have hb := box1_below w y.f
  have HG := Hid.mk (hG.kept hb)
  obtain ⟨c0, c1, c2⟩ := hG.kept hb
  have HY := Hid.mk (FlAt.box w y.f)
  have HH := Hid.mk (fun W => holds_any y x W hy hx)
  have HI := Hid.mk (fun W => holds_any x y W hx hy)
  have HB := Hid.mk hb
  clear hx hy hG hb
  unfold box1 at c0 c1 c2 HB HG HY
  unfold Fn.f Fl.val at *
  simp only at HB HH HI c0 c1 c2 ⊢
  cases h1 : holdsN y x
  · rw [h1] at HH
    go_enter Tryd.func31, Tryd.ntmps31
    go_wp2_with fail
    refine (HH.out _).mono ?_
    rintro e w1 ⟨rfl, hb1⟩
    have HB1 := Hid.mk (bl2 HB.out hb1)
    clear hb1
    go_wp2_with fail
    go_ret
    exact ⟨rfl, HB1.out⟩
  · rw [h1] at HH
    cases h2 : holdsN x y
    all_goals
      rw [h2] at HI
      go_enter Tryd.func31, Tryd.ntmps31
      go_wp2_with fail
      refine (HH.out _).mono ?_
      rintro e w1 ⟨rfl, hb1⟩
      have HB1 := Hid.mk (bl2 HB.out hb1)
      obtain ⟨d0, d1, d2⟩ := HG.out.kept hb1
      obtain ⟨y0, y1, y2⟩ := HY.out.kept hb1
      simp only at d0 d1 d2 y0 y1 y2
      clear hb1 c0 c1 c2
      go_wp2_with fail
      refine (HI.out _).mono ?_
      rintro e w2 ⟨rfl, hb2⟩
      have HB2 := Hid.mk (bl2 HB1.out hb2)
      clear hb2
      go_wp2_with fail
      go_ret
      exact ⟨rfl, HB2.out⟩
theorem goes_eq (l : List Fn) (i : Nat) (h : i < l.length) : goesN l i = (((l.take i).map Fn.f).any (fun y => holdsN y.n (l.getD i ⟨0, 0, false⟩)) || ((l.drop (i + 1)).map Fn.f).any (fun y => holdsN y.n (l.getD i ⟨0, 0, false⟩) && !holdsN (l.getD i ⟨0, 0, false⟩) y.n)) := by
  rw [Bool.eq_iff_iff, Bool.or_eq_true]
  unfold goesN
  simp only [List.any_eq_true, List.mem_range, List.mem_map]
  constructor
  · rintro ⟨k, hk, hg⟩
    unfold goesBy at hg
    split at hg
    · rename_i hki
      left
      refine ⟨_, ⟨l.getD k ⟨0, 0, false⟩, ?_, rfl⟩, by rw [f_n]; exact hg⟩
      rw [List.mem_take_iff_getElem]
      exact ⟨k, by omega, by simp [List.getD, hk]⟩
    · split at hg
      · rename_i hki
        right
        refine ⟨_, ⟨l.getD k ⟨0, 0, false⟩, ?_, rfl⟩, by rw [f_n]; exact hg⟩
        rw [List.mem_drop_iff_getElem]
        exact ⟨k - (i + 1), by omega, by simp [List.getD, show i + 1 + (k - (i + 1)) = k by omega, hk]⟩
      · cases hg
  · rintro (⟨y, ⟨z, hz, rfl⟩, hg⟩ | ⟨y, ⟨z, hz, rfl⟩, hg⟩)
    · rw [List.mem_take_iff_getElem] at hz
      obtain ⟨k, hk, rfl⟩ := hz
      refine ⟨k, by omega, ?_⟩
      rw [f_n] at hg
      unfold goesBy
      rw [if_pos (by omega)]
      simpa [List.getD, show k < l.length by omega] using hg
    · rw [List.mem_drop_iff_getElem] at hz
      obtain ⟨k, hk, rfl⟩ := hz
      refine ⟨i + 1 + k, by omega, ?_⟩
      rw [f_n] at hg
      unfold goesBy
      rw [if_neg (by omega), if_pos (by omega)]
      simpa [List.getD, show i + 1 + k < l.length by omega] using hg
theorem fils_take {w : World} {x : Addr} {n c : Nat} {l : List Fl} (h : IsFils w (some x) n c l) (k : Nat) (hk : k ≤ n) : IsFils w (some x) k c (l.take k) := by
  have hl := h.len
  refine ⟨by rw [List.length_take]; omega, Nat.le_trans hk h.le, h.max, (fun h => by cases h), fun y hy i hi => ?_⟩
  have e : (l.take k).getD i noF = l.getD i noF := by simp [List.getD, List.getElem?_take_of_lt hi]
  rw [e]
  exact h.cell y hy i (by omega)
theorem fils_drop {w : World} {x : Addr} {n c : Nat} {l : List Fl} (h : IsFils w (some x) n c l) (k : Nat) (hk : k ≤ n) : IsFils w (some (if c = k then x else x.add (k * 3))) (n - k) (c - k) (l.drop k) := by
  have hl := h.len
  have hc := h.le
  have hm := h.max
  refine ⟨by rw [List.length_drop]; omega, by omega, by omega, (fun h => by cases h), fun y hy i hi => ?_⟩
  rw [if_neg (by omega)] at hy
  cases hy
  have e : (l.drop k).getD i noF = l.getD (k + i) noF := by simp [List.getD]
  have ea : ∀ j, (x.add (k * 3)).add j = x.add (k * 3 + j) := fun j => by
    first | exact Addr.add_add _ _ _ | (unfold Addr.add; simp; omega)
  have h1 := h.cell x rfl (k + i) (by omega)
  rw [e, ea, ea, ea, show k * 3 + i * 3 = (k + i) * 3 by omega, show k * 3 + (i * 3 + 1) = (k + i) * 3 + 1 by omega, show k * 3 + (i * 3 + 2) = (k + i) * 3 + 2 by omega]
  exact h1
theorem elem_fil : Tryd.prog.elem 22 = 34 := by kernel_rfl
theorem size_fil (W : World) : (sizeOf 34).run Tryd.prog W = .ok 3 W := by simp [go_sem]
theorem und_fil : Tryd.prog.underlying 22 = some (.slice (Tryd.prog.elem 22)) := by rw [elem_fil]; exact Tryd.underlying22
theorem slice_h (x : Addr) (n c k : Nat) (hk : k ≤ c) (W : World) : (Instr.slice 22 (.slice (some x) n c) none (some (.int .i64 (k : Int))) none).run Tryd.prog W = .ok (.slice (some x) k c) W := by
  rw [run_slice_h (ht := und_fil) (h0 := by omega) (h2 := by omega), elem_fil, size_fil]
  simp [Result.andThen, sliced]
  intro _
  simp [Addr.add]
theorem slice_l (x : Addr) (n c k : Nat) (hk : k < n) (W : World) : (Instr.slice 22 (.slice (some x) n c) (some (.int .i64 ((k : Int) + 1))) none none).run Tryd.prog W = .ok (.slice (some (if c = k + 1 then x else x.add ((k + 1) * 3))) (n - (k + 1)) (c - (k + 1))) W := by
  rw [run_slice_l (ht := und_fil) (h0 := by omega) (h1 := by omega), elem_fil, size_fil]
  have e : ((k : Int) + 1).toNat = k + 1 := by omega
  simp only [Result.andThen, sliced, e]
  split <;> rfl
theorem least_more (l : List Fn) (k : Nat) : leastK l (k + 1) = leastK l k ++ (if goesN l k = true then [] else [bareN (l.getD k ⟨0, 0, false⟩)]) := rfl
theorem owns_base {w : World} {base base' : Nat} {e : TypeId} {size : Nat} {v : Value} {n : Nat} {xs : List Value} (h : w.ownsRow base e size v n xs) (hb : base' ≤ base) : w.ownsRow base' e size v n xs := by
  obtain ⟨h1, h2⟩ := h
  refine ⟨h1, ?_⟩
  rcases h2 with h2 | ⟨g, cap, cur, hv, hg, r⟩
  · exact Or.inl h2
  · exact Or.inr ⟨g, cap, cur, hv, Nat.le_trans hb hg, r⟩
theorem row3_at (W : World) (s : Nat) (hs : s = W.heap.size) (a b c : Value) (t : TypeId) : ∀ j u, [a, b, c][j]? = some u → (W.alloc (.cells #[a, b, c] t)).cell? ((⟨s, 0, none⟩ : Addr).add j) = some u := by
  subst hs
  have h := heap_alloc_new W (.cells #[a, b, c] t)
  intro j u hj
  have ea : (Addr.add ⟨W.heap.size, 0, none⟩ j) = ⟨W.heap.size, j, none⟩ := by simp [Addr.add]; exact fun h => h.symm
  rw [ea, cell_of_row _ _ j _ _ _ h, List.getElem?_toArray]
  exact hj
theorem grown_set (w : World) (p : Addr) (v : Value) : w.grownBy (w.setCell p v) (some p.block) :=
  ⟨rfl, rfl, rfl, by simp, fun k _ hk => heap_setCell_other w p k v (fun e => hk (by rw [e]))⟩
set_option maxHeartbeats 4000000 in
set_option maxRecDepth 100000 in
theorem least_bad (a : Option Addr) (n c : Nat) (l : List Fl) (w : World) (hF : IsFils w a n c l) (hL : LastsAt w) (hE : chkFl l ≠ 0) :
    Calls Tryd.prog 16 #[.slice a n c] w fun e w' => e = .returned (.tuple #[.slice none 0 0, .int .i64 (chkFl l)]) ∧ Below w.heap.size w w' := by
  have HC := Hid.mk (fcheck_any a n c l w hF hL)
  have he : (chkFl l != 0) = true := by simpa using hE
  clear hF hL hE
  generalize chkFl l = e at *
  go_enter Tryd.func16, Tryd.ntmps16
  go_wp2_with fail
  refine HC.out.mono ?_
  rintro e w1 ⟨rfl, hb1⟩
  go_wp2_with fail
  go_ret2
  exact ⟨rfl, hb1⟩
set_option maxHeartbeats 8000000 in
set_option maxRecDepth 100000 in
theorem least_okP (a : Option Addr) (n c : Nat) (l : List Fn) (w : World) (hF : IsFils w a n c (l.map Fn.f)) (hL : LastsAt w) (hok : ∀ x ∈ l, okN x) (hn : n ≤ 16) :
    Calls Tryd.prog 16 #[.slice a n c] w fun e w' => ∃ v, e = .returned (.tuple #[v, .int .i64 0]) ∧
      w'.ownsRow w.heap.size 34 3 v (leastN l).length (filC (leastN l)) ∧ Below w.heap.size w w' := by
  obtain ⟨i0, hi, hz0, hz1, hz2⟩ := info_parts info_fil
  have hlen : l.length = n := by have := hF.len; simpa using this
  have hC := fcheck_any a n c _ _ hF hL
  rw [chk_ok hok (by omega)] at hC
  have HC := Hid.mk hC
  have HF := Hid.mk hF
  have HOK := Hid.mk hok
  have HLN := Hid.mk hlen
  have hnc := hF.le
  clear hF hL hok hC hlen
  go_enter Tryd.func16, Tryd.ntmps16
  go_wp2_with fail
  refine HC.out.mono ?_
  rintro e w1 ⟨rfl, hb1⟩
  have HF1 := Hid.mk (HF.out.kept hb1)
  have HB1 := Hid.mk hb1
  clear hb1 HC HF
  go_wp2_with fail
  go_loopw [5, 17] (fun v i wr => ∃ k : Nat, k ≤ n ∧ i = .int .i64 k ∧ Hid (wr.ownsRow w1.heap.size 34 3 v (leastK l k).length (filC (leastK l k))) ∧ Hid (Below w1.heap.size w1 wr)) (fun _ i _ => n - (intOf i).toNat)
  case atStart => exact ⟨0, Nat.zero_le _, rfl, Hid.mk (World.ownsRow_nil _ _ _ _), Hid.mk (Below.refl _ _)⟩
  case round =>
    obtain ⟨k, hk, rfl, HO, HB⟩ := hrel
    by_cases hlt : k < n
    · have hlt' : (k : Int) < (n : Int) := by omega
      obtain ⟨X, rfl⟩ := fils_some HF1.out hlt
      obtain ⟨c0, c1, c2⟩ := fils_at (HF1.out.kept HB.out) hlt
      have HGO := Hid.mk (goes_eq l k (by rw [HLN.out]; exact hlt))
      have HM := Hid.mk (least_more l k)
      have hlk := leastK_len l k
      have HOX := Hid.mk (getD_ok HOK.out k)
      obtain ⟨x, hx⟩ : ∃ x, x = l.getD k ⟨0, 0, false⟩ := ⟨_, rfl⟩
      rw [map_getD l k (by rw [HLN.out]; exact hlt), ← hx] at c0 c1 c2
      rw [← hx] at HGO HM HOX
      have hb2 := box1_below wr x.f
      have HB2 := Hid.mk (bl2 HB.out hb2)
      have HG := Hid.mk (FlAt.box wr x.f)
      have HH := Hid.mk (heap_alloc_new wr (.cells #[.int .i64 x.f.w, .int .i64 x.f.m, .bool x.f.lo] 34))
      have HF2 := Hid.mk ((HF1.out.kept HB.out).kept hb2)
      have HO2 := Hid.mk (ownsRow_below HO.out hb2)
      have hs1 := slice_h X n c k (by omega)
      have hs2 := slice_l X n c k hlt
      obtain ⟨Y, hY⟩ : ∃ Y, Y = (if c = k + 1 then X else X.add ((k + 1) * 3)) := ⟨_, rfl⟩
      have hF4 := fun W (h : IsFils W (some X) n c (l.map Fn.f)) => fils_drop h (k + 1) (by omega)
      rw [← hY] at hs2 hF4
      have HC1 := Hid.mk (containsFunc_any 30 #[.pointer (some ⟨wr.heap.size, 0, none⟩)] (enters_of Tryd.func30 (by kernel_rfl) rfl) (fun y => holdsN y.n x) (some X) k c ((l.take k).map Fn.f) (box1 wr x.f) (by rw [List.map_take]; exact fils_take HF2.out k (by omega)) (by
        intro W y hb hy
        obtain ⟨z, hz, rfl⟩ := List.mem_map.1 hy
        rw [f_n]
        exact hold1_any x z wr.heap.size W HOX.out (HOK.out z (List.mem_of_mem_take hz)) (HG.out.kept hb)))
      have HC2 := Hid.mk (fun W (hW : Below (box1 wr x.f).heap.size (box1 wr x.f) W) => containsFunc_any 31 #[.pointer (some ⟨wr.heap.size, 0, none⟩)] (enters_of Tryd.func31 (by kernel_rfl) rfl) (fun y => holdsN y.n x && !holdsN x y.n) (some Y) (n - (k + 1)) (c - (k + 1)) ((l.drop (k + 1)).map Fn.f) W (by rw [List.map_drop]; exact hF4 W (HF2.out.kept hW)) (by
        intro W' y hb hy
        obtain ⟨z, hz, rfl⟩ := List.mem_map.1 hy
        rw [f_n]
        exact hold2_any x z wr.heap.size W' HOX.out (HOK.out z (List.mem_of_mem_drop hz)) ((HG.out.kept hW).kept hb)))
      have HX := Hid.mk hx
      obtain ⟨B1, hB1⟩ : ∃ B1, B1 = ((l.take k).map Fn.f).any (fun y => holdsN y.n x) := ⟨_, rfl⟩
      obtain ⟨B2, hB2⟩ : ∃ B2, B2 = ((l.drop (k + 1)).map Fn.f).any (fun y => holdsN y.n x && !holdsN x y.n) := ⟨_, rfl⟩
      rw [← hB1] at HC1 HGO
      rw [← hB2] at HC2 HGO
      clear hx hb2 hY hF4 hB1 hB2
      unfold box1 at HB2 HF2 HO2 HC1 HC2 HG
      unfold Fn.f at HB2 HF2 HO2 HC1 HC2 HG HH c0 c1 c2
      simp only at HB2 HF2 HO2 HC1 HC2 HG HH c0 c1 c2
      cases B1
      · cases B2
        · have hgo : goesN l k = false := HGO.out
          have hm := HM.out
          rw [hgo] at hm
          simp only [Bool.false_eq_true, if_false] at hm
          have HM1 := Hid.mk hm
          have HXL := Hid.mk (ok_lt HOX.out)
          have HAND := Hid.mk (and_i64 x.w x.m (by have := HXL.out; omega) (by have := HXL.out; omega))
          clear hgo hm HGO HM
          go_wp2_with fail
          refine HC1.out.mono ?_
          rintro e w2 ⟨rfl, hbb2⟩
          have HBb2 := Hid.mk hbb2
          clear hbb2
          go_wp2_with fail
          refine (HC2.out _ HBb2.out).mono ?_
          rintro e w3 ⟨rfl, hbb3⟩
          have hh3 := ((bl2 HBb2.out hbb3).block wr.heap.size (by simp)).trans HH.out
          have HB3 := Hid.mk (bl2 (bl2 HB2.out HBb2.out) hbb3)
          have HO3 := Hid.mk (ownsRow_below (ownsRow_below HO2.out HBb2.out) hbb3)
          have z0 := cell_of_row w3 wr.heap.size 0 _ _ _ hh3
          have z1 := cell_of_row w3 wr.heap.size 1 _ _ _ hh3
          have zf := frozen_of_row w3 wr.heap.size 0 _ _ hh3
          have hst := heap_setCell_same w3 wr.heap.size 0 _ _ (.int .i64 (bits .and .i64 (x.w : Int) (x.m : Int))) hh3
          have y0 := cell_of_row _ wr.heap.size 0 _ _ _ hst
          have y1 := cell_of_row _ wr.heap.size 1 _ _ _ hst
          have y2 := cell_of_row _ wr.heap.size 2 _ _ _ hst
          have hgr := grown_set w3 ⟨wr.heap.size, 0, none⟩ (.int .i64 (bits .and .i64 (x.w : Int) (x.m : Int)))
          have HO4 := Hid.mk (owns_beside HO3.out hgr (fun q hq => by
            have := (HO.out.lt q hq).2
            simp; omega))
          have HB4 := Hid.mk (HB3.out.setCell (p := ⟨wr.heap.size, 0, none⟩) HB.out.size (.int .i64 (bits .and .i64 (x.w : Int) (x.m : Int))))
          have hlk' : (leastK l k).length ≤ 16 := by omega
          clear hbb3 hh3 hst hgr
          simp at z0 z1 y0 y1 y2
          go_wp2_with (at_builtin; refine wpList_append_own _ rfl (.tmp 43) (.tmp 45) 22 rfl w1.heap.size 34 i0 (.agg #[.int .i64 0, .int .i64 0, .bool false]) 3 24 Tryd.underlying22 hi hz0 hz1 hz2 rfl (by decide) _ _ _ rfl (HO4.out.alloc _) ⟨w3.heap.size, 0, none⟩ 1 1 [Value.int .i64 (bits .and .i64 (x.w : Int) (x.m : Int)), Value.int .i64 x.m, Value.bool x.lo] rfl rfl (row3_at _ _ (by simp) _ _ _ _) (by intro u hu; simp at hu; rcases hu with rfl | rfl | rfl <;> rfl) (by unfold maxLen; omega) (by omega) (by have := HB4.out.size; simp at this; simp; omega) ?_; intro v5 w5 hown5 hgrow5 _)
          have hB5 : Below w1.heap.size w1 w5 := Below.grown (HB4.out.alloc HB4.out.size _) hgrow5 (by have := HB4.out.size; simp at this; simp; omega) (fun q hq => (HO4.out.lt q hq).1)
          have hown6 := hown5
          rw [HAND.out, ← show filC [bareN x] = [Value.int .i64 ((x.w &&& x.m : Nat) : Int), .int .i64 (x.m : Int), .bool x.lo] from filC_one (bareN x), ← filC_append, ← HM1.out, show (leastK l k).length + 1 = (leastK l (k + 1)).length by rw [HM1.out]; simp] at hown6
          have HO6 := Hid.mk hown6
          have HB6 := Hid.mk hB5
          clear hown5 hown6 hB5 hgrow5
          go_roundw
          case rel => exact ⟨k + 1, by omega, by go_num, HO6, HB6⟩
          case measure => simp [intOf]; omega
        · have hgo : goesN l k = true := HGO.out
          have hm := HM.out
          rw [hgo] at hm
          simp only [if_true, List.append_nil] at hm
          have HM1 := Hid.mk hm
          clear hgo hm HGO HM
          go_wp2_with fail
          refine HC1.out.mono ?_
          rintro e w2 ⟨rfl, hbb2⟩
          have HBb2 := Hid.mk hbb2
          clear hbb2
          go_wp2_with fail
          refine (HC2.out _ HBb2.out).mono ?_
          rintro e w3 ⟨rfl, hbb3⟩
          have HB3 := Hid.mk (bl2 (bl2 HB2.out HBb2.out) hbb3)
          have HO3 := Hid.mk (ownsRow_below (ownsRow_below HO2.out HBb2.out) hbb3)
          clear hbb3
          go_wp2_with fail
          go_roundw
          case rel => exact ⟨k + 1, by omega, by go_num, by rw [HM1.out]; exact HO3, HB3⟩
          case measure => simp [intOf]; omega
      · have hgo : goesN l k = true := by rw [HGO.out]; rfl
        have hm := HM.out
        rw [hgo] at hm
        simp only [if_true, List.append_nil] at hm
        have HM1 := Hid.mk hm
        clear hgo hm HGO HM
        go_wp2_with fail
        refine HC1.out.mono ?_
        rintro e w2 ⟨rfl, hbb2⟩
        have HB3 := Hid.mk (bl2 HB2.out hbb2)
        have HO3 := Hid.mk (ownsRow_below HO2.out hbb2)
        clear hbb2
        go_wp2_with fail
        go_roundw
        case rel => exact ⟨k + 1, by omega, by go_num, by rw [HM1.out]; exact HO3, HB3⟩
        case measure => simp [intOf]; omega
    · have e : k = n := by omega
      subst e
      have hO := HO.out
      rw [show leastK l k = leastN l by unfold leastN; rw [HLN.out]] at hO
      have HO1 := Hid.mk hO
      have HBB := Hid.mk (bl2 HB1.out HB.out)
      clear hO
      go_wp2_with fail
      go_ret2
      exact ⟨_, rfl, owns_base HO1.out HB1.out.size, HBB.out⟩
end Bw
end Go.Proofs.YtfmjhgggoklaoaaDoor
